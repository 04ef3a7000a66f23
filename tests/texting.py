"""Plain trials of what can follow in a text, that the tests of section 23 share.

A grammar is told by two functions: whether a whole text is right, and which ends may follow a beginning. The right
place of the first wrong sign is found by a trial of all these ends.
"""

from tests.helpers import Case, Sour, odd_things

SIGNS = "abz09 \n:,()*>-A_.\t"


def place_of(text, at):
    """Line and sign, counted from 1, of a place."""
    lines = text[:at].split("\n")
    return (len(lines), len(lines[-1]) + 1)


def plain_fault(text, is_right, ends):
    """The place of the first wrong sign, by a trial of all ends; None for a right text."""
    if is_right(text):
        return None

    def goes_on(many):
        return any(is_right(text[:many] + end) for end in ends(text[:many]))

    # What begins something right is itself begun by such: so the first wrong one is found by halves.
    low, high = 0, len(text) + 1
    if not goes_on(0):
        return (1, 1)
    while high - low > 1:
        middle = (low + high) // 2
        if middle <= len(text) and goes_on(middle):
            low = middle
        else:
            high = middle
    return place_of(text, low)


def bent(chance, text, words=()):
    """A text bent by a sign, a word or a line at any place."""
    way = chance.randrange(9)
    at = chance.randrange(len(text) + 1)
    if way == 0:
        return text[:at] + text[at + 1:]
    if way == 1:
        return text[:at] + chance.choice(SIGNS) + text[at:]
    if way == 2:
        return text[:at] + chance.choice(SIGNS) + text[at + 1:]
    if way == 3:
        return text[:at]
    lines = text.split("\n")
    index = chance.randrange(len(lines))
    if way == 4:
        return "\n".join([*lines[:index], *lines[index + 1:]])
    if way == 5:
        return "\n".join([*lines[:index], chance.choice(lines), *lines[index:]])
    parts = lines[index].split(" ")
    place = chance.randrange(len(parts))
    if way == 6:
        parts = [*parts[:place], *parts[place + 1:]]
    elif way == 7:
        parts = [*parts[:place], chance.choice([*parts, *words]), *parts[place:]]
    else:
        parts = [*parts[:place], chance.choice([*parts, *words]), *parts[place + 1:]]
    return "\n".join([*lines[:index], " ".join(parts), *lines[index + 1:]])


class TextCase(Case):
    """What tests of texts need."""

    def bad_text(self, error, place, call, *args):
        """The call raises just this error, which keeps line and sign."""
        with self.assertRaises(error) as caught:
            call(*args)
        self.assertIs(type(caught.exception), error)
        self.assertEqual(vars(caught.exception), {"line": place[0], "sign": place[1]})

    def no_strings(self, error, read, fault, *ahead):
        """What is no string has the fault (0, 0)."""
        for thing in [*odd_things(), Sour(), b"\n", ["\n"], None]:
            if isinstance(thing, str):
                place = fault(*ahead, thing)
                self.assertTrue(place is None or place >= (1, 1))
            else:
                self.assertEqual(fault(*ahead, thing), (0, 0))
                self.bad_text(error, (0, 0), read, *ahead, thing)

    def faults(self, error, read, fault, ahead, rows):
        """Each text has this fault; that of a right one is None."""
        for text, place in rows:
            self.assertEqual(fault(*ahead, text), place, text)
            if place is None:
                read(*ahead, text)
            else:
                self.assertIs(type(fault(*ahead, text)), tuple)
                self.bad_text(error, place, read, *ahead, text)
