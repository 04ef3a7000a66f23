"""Texts, read sign by sign: each word is one of those that may stand there, so the first wrong sign shows."""

from anywithin.words import is_name

FIGURES = "0123456789"
# So many signs a name has at most, and so many may stand behind its first one.
MOST_SIGNS = 8
MANY_SIGNS = 36


class WrongSign(ValueError):
    """No right text goes on as this one does at this place. It is raised and caught within this package."""

    def __init__(self, at):
        self.at = at


class Cursor:
    """A text, and the place up to which it is read."""

    def __init__(self, text):
        self._text = text
        self._at = 0

    def is_done(self):
        """Tell whether all is read."""
        return self._at == len(self._text)

    def need_end(self):
        """Refuse what stands behind a whole text."""
        if not self.is_done():
            raise WrongSign(self._at)

    def skips(self, word):
        """Read this word if it stands here; tell whether it does."""
        if not self._text.startswith(word, self._at):
            return False
        self._at += len(word)
        return True

    def one_of(self, words):
        """Read, and tell, the one of words that stands here; none of them may begin another one."""
        reached = 0
        for word in words:
            if self.skips(word):
                return word
            reached = max(reached, self._many_shared(word))
        raise WrongSign(self._at + reached)

    def _many_shared(self, word):
        """Tell how many signs of a word stand here."""
        many = 0
        while self._text[self._at + many:self._at + many + 1] == word[many]:
            many += 1
        return many

    def new_name(self, taken, ends):
        """Read a NAME that is none of taken, and one of the signs of ends; tell both, in one word."""
        start = self._at
        while True:
            word = self._text[start:self._at + 1]
            name, sign = self._text[start:self._at], self._text[self._at:self._at + 1]
            if sign != "" and sign in ends and name != "" and name not in taken:
                self._at += 1
                return word
            if sign == "" or not _begins_name(word, taken):
                raise WrongSign(self._at)
            self._at += 1

    def read_number(self, ends):
        """Read a NUMBER, and one of the signs of ends; tell both, in one word."""
        start = self._at
        while True:
            figures, sign = self._text[start:self._at], self._text[self._at:self._at + 1]
            if sign != "" and sign in ends and figures != "":
                self._at += 1
                return figures + sign
            if sign == "" or sign not in FIGURES or figures == "0":
                raise WrongSign(self._at)
            self._at += 1


def _begins_name(start, taken):
    """Tell whether some NAME that is none of taken begins so."""
    if not is_name(start):
        return False
    many = 1
    for _ in range(MOST_SIGNS - len(start)):
        many = 1 + MANY_SIGNS * many
    return len([name for name in taken if name.startswith(start)]) < many


def with_ends(words, ends):
    """Tell each of words with each of the signs of ends behind it."""
    return [word + end for word in words for end in ends]


def text_fault(thing, reads):
    """Tell (line, sign) of the first wrong sign of any object, None for a text that the function reads can read."""
    if not isinstance(thing, str):
        return (0, 0)
    try:
        reads(Cursor(thing))
    except WrongSign as wrong:
        return _place_of(thing, wrong.at)
    return None


def _place_of(text, at):
    """Tell the line, and the sign in it, of a place in a text, both counted from 1."""
    ahead = text[:at]
    return (1 + ahead.count("\n"), at - ahead.rfind("\n"))
