"""[23.1], [23.3], [23.4], [23.7], [23.8]: stands, lists of stands, beginnings as text."""

import re

from anywithin.beginnings import is_beginning
from anywithin.errors import BadBeginning, BadKinds, BadStand, BadStands
from anywithin.kinds import Kinds
from anywithin.refusals import BadBeginningText, BadStandsText, BadStandText
from anywithin.stands import is_stand
from anywithin.standtexts import (
    beginning_text, beginning_text_fault, read_beginning, read_stand, read_stands, stand_text, stand_text_fault,
    stands_text, stands_text_fault,
)
from anywithin.verdicts import verdict
from tests.helpers import (
    KINDS as LINES, WIDE, Case, as_lists, as_tuples, chance_of, no_beginnings, no_stands, random_beginning, random_stand,
    shuffled, told, told_seeds,
)
from tests.test_gardens import STANDS
from tests.test_kindtexts import SHOPS
from tests.test_most import NO_KINDS
from tests.test_walls import PLAN
from tests.texting import TextCase, bent, plain_fault
from tests.trials import SOME_KINDS

# Names that are the beginnings of others, marks and kinds.
CLOSE = Kinds([("a", "", ["b", "bb"], False), ("ab", "", ["a"], False), ("b", "a", ["a", "a1"], False), ("bb", "a", ["b"], False),
               ("c", "b", ["c"], False)])
TOKEN = re.compile(r"(\*?)([a-z0-9]+):([a-z0-9]+)|([(),\n ])")


def plain_line(text, starred):
    """The rows of a line, its line feed last, by a look at its words; None if it has not the form."""
    if not text.endswith("\n") or text.count("\n") != 1:
        return None
    rows, holders, at, last = [], [], 0, " "
    while at < len(text):
        found = TOKEN.match(text, at)
        if found is None:
            return None
        at = found.end()
        star, kind, mark, sign = found.groups()
        if sign is None:
            if last not in (" ", ",", "(") or (star and not starred) or (last == " ") != (not holders):
                return None
            row = [kind, mark, []] + ([bool(star)] if starred else [])
            (holders[-1][2] if holders else rows).append(row)
            last = row
            continue
        if sign == "\n" and not holders and (isinstance(last, list) or text == "\n" or last == ")"):
            return rows
        if not isinstance(last, list) and last != ")":
            return None
        if sign == "(":
            if last == ")":
                return None
            holders.append(last)
        elif sign == ")":
            if not holders:
                return None
            holders.pop()
        elif sign == " " and holders or sign == "," and not holders:
            return None
        last = sign
    return None


def is_right_line(kinds, starred):
    def is_right(text):
        rows = plain_line(text, starred)
        return rows is not None and (is_beginning(kinds, rows) if starred else is_stand(kinds, rows))
    return is_right


def are_right_lines(kinds):
    one = is_right_line(kinds, False)

    def is_right(text):
        return text == "" or text.endswith("\n") and all(one(line + "\n") for line in text[:-1].split("\n"))
    return is_right


def line_ends(kinds):
    """Ends that may follow, one of which makes a text right that some end makes right."""
    words = [f"{kind}:{mark}" for kind in kinds.all_kinds() for mark in kinds.marks(kind)]
    starts = {word[at:] for word in words for at in range(len(word) + 1)} | {""}
    found = ["", *[start + ")" * many + "\n" for start in sorted(starts) for many in range(4)]]
    return lambda text: found


class StandText(TextCase):

    def test_example(self):
        self.assertEqual(stand_text(SHOPS, [("shop", "shut", [("order", "paid", []), ("order", "new", [])])]),
                         "shop:shut(order:new,order:paid)\n")
        for text, place in (("shop:shut(line", (1, 11)), ("shop:open", (1, 10)), ("", (1, 1))):
            self.assertEqual(stand_text_fault(SHOPS, text), place)
        self.assertEqual(stands_text(SHOPS, []), "")

    def test_written(self):
        self.assertEqual(stand_text(SHOPS, []), "\n")
        self.assertEqual(stand_text(LINES, [("shop", "shut", []), ("shop", "open", [("order", "paid", [("line", "ok", ())] * 2), ("order", "new", [])])]),
                         "shop:open(order:new,order:paid(line:ok,line:ok)) shop:shut\n")
        self.assertEqual(stands_text(SHOPS, [[("shop", "shut", [])], [], [("shop", "open", [])]]), "shop:shut\n\nshop:open\n")
        self.assertEqual(read_stands(SHOPS, "shop:shut\n\nshop:open\n"), [(("shop", "shut", ()),), (), (("shop", "open", ()),)])
        self.assertEqual((read_stands(SHOPS, ""), read_stands(SHOPS, "\n")), ([], [()]))
        self.assertEqual(read_stand(SHOPS, "shop:open(order:paid,order:new) shop:open\n"), (
            ("shop", "open", ()), ("shop", "open", (("order", "new", ()), ("order", "paid", ())))))
        wall = verdict(PLAN, [], [("shop", "shut", [("order", "paid", [])])])[1]
        self.assertEqual(stands_text(PLAN.kinds(), wall), "shop:shut(order:new)\nshop:shut(order:paid)\n")

    def test_faults(self):
        rows = [
            ("\n", None), ("shop:open\n", None), ("s", (1, 2)), ("x", (1, 1)), (" ", (1, 1)), ("shop", (1, 5)), ("shop ", (1, 5)),
            ("shop:", (1, 6)), ("shop:o", (1, 7)), ("shop:x", (1, 6)), ("shop:new", (1, 6)), ("shop:openx", (1, 10)), ("order:new\n", (1, 1)),
            ("shop:open(", (1, 11)), ("shop:open()", (1, 11)), ("shop:open(order:new\n", (1, 20)), ("shop:open(order:new)", (1, 21)),
            ("shop:open(order:new )\n", (1, 20)), ("shop:open(order:new,)\n", (1, 21)), ("shop:open(order:new(", (1, 20)),
            ("shop:open,shop:open\n", (1, 10)), ("shop:open  shop:open\n", (1, 11)), ("shop:open \n", (1, 11)), (" shop:open\n", (1, 1)),
            ("shop:open(shop:open)\n", (1, 11)), ("shop:open(*order:new)\n", (1, 11)), ("*shop:open\n", (1, 1)), ("shop:open)\n", (1, 10)),
            ("shop:open(order:new))\n", (1, 21)), ("shop:open(order:new)(", (1, 21)), ("shop:open\r\n", (1, 10)), ("Shop:open\n", (1, 1)),
            ("shop:open(order:new),shop:open\n", (1, 21)), ("shop:open(order:new) \n", (1, 22)),
        ]
        self.faults(BadStandText, read_stand, stand_text_fault, (SHOPS,), [
            *rows, ("", (1, 1)), ("\n\n", (2, 1)), ("shop:open\nx", (2, 1)), ("shop:open\nshop:open\n", (2, 1)), ("\n ", (2, 1))])
        self.faults(BadStandsText, read_stands, stands_text_fault, (SHOPS,), [
            *rows, ("", None), ("\n\n", None), ("shop:open\nx", (2, 1)), ("shop:open\nshop:open\n", None), ("\nshop:open", (2, 10)),
            ("\n\n\nshop:shut(\n", (4, 11)), ("\n ", (2, 1))])

    def test_names_that_begin_others(self):
        rows = [
            ("a:b\n", None), ("a:bb\n", None), ("ab:a\n", None), ("ab:b\n", (1, 4)), ("a:bbb\n", (1, 5)), ("abb", (1, 3)), ("a:b(b:a,bb:b)\n", None),
            ("a:b(b:a1)\n", None), ("a:b(b:a11)\n", (1, 9)), ("a:b(bb:a)\n", (1, 8)), ("a:b(bb:b(c:c))\n", (1, 9)), ("a:b(b:a(c:c))\n", None),
            ("a:b(b:a(c:c(\n", (1, 12)), ("ab:a(\n", (1, 5)), ("b:a\n", (1, 1)), ("a:b(b:a1(c:c,c:c),bb:b) ab:a a:bb(bb:b)\n", None),
        ]
        self.faults(BadStandText, read_stand, stand_text_fault, (CLOSE,), rows)
        self.faults(BadStandsText, read_stands, stands_text_fault, (CLOSE,), rows)

    def test_no_kinds(self):
        bare = Kinds([])
        self.faults(BadStandText, read_stand, stand_text_fault, (bare,), [("\n", None), ("a", (1, 1)), ("", (1, 1)), ("*", (1, 1))])
        self.faults(BadStandsText, read_stands, stands_text_fault, (bare,), [("", None), ("\n\n", None), ("\na", (2, 1))])
        self.faults(BadBeginningText, read_beginning, beginning_text_fault, (bare,), [("\n", None), ("*", (1, 1)), ("a", (1, 1))])

    def test_wrong(self):
        bad = [("kinds", thing, BadKinds, thing) for thing in NO_KINDS]
        stand = [("shop", "open", [])]
        self.refuses(stand_text, {"kinds": SHOPS, "stand": stand}, [*bad, *no_stands(BadStand, "stand", stand)])
        stands = [("stands", thing, BadStands, index) for _, thing, _, index in STANDS if index == 0]
        self.refuses(stands_text, {"kinds": SHOPS, "stands": [stand]}, [*bad, *stands, ("stands", [stand, [], [5]], BadStands, 2)])
        self.refuses(beginning_text, {"kinds": SHOPS, "beginning": [("shop", "open", [], True)]}, [*bad, *no_beginnings(BadBeginning)])
        for call in (read_stand, read_stands, read_beginning, stand_text_fault, stands_text_fault, beginning_text_fault):
            self.refuses(call, {"kinds": SHOPS, "text": "\n"}, bad)
            self.raised(BadKinds, None, call, None, 5)

    def test_no_strings(self):
        self.no_strings(BadStandText, read_stand, stand_text_fault, SHOPS)
        self.no_strings(BadStandsText, read_stands, stands_text_fault, SHOPS)
        self.no_strings(BadBeginningText, read_beginning, beginning_text_fault, SHOPS)

    def test_read_back(self):
        chance = chance_of(239)
        for _ in range(150):
            kinds = chance.choice([SHOPS, LINES, WIDE, CLOSE, *SOME_KINDS])
            stand = random_stand(chance, kinds, 8)
            text = stand_text(kinds, stand)
            self.assertEqual(read_stand(kinds, text), told(stand))
            self.assertEqual(stand_text(kinds, as_tuples(shuffled(chance, stand))), text)
            self.assertEqual(plain_line(text, False), as_lists(told(stand)))
            stands = [random_stand(chance, kinds, 4) for _ in range(chance.randint(0, 4))]
            text = stands_text(kinds, stands)
            self.assertEqual(read_stands(kinds, text), [told(one) for one in stands])
            self.assertEqual(stands_text(kinds, read_stands(kinds, text)), text)
            begun = random_beginning(chance, kinds, 8)
            text = beginning_text(kinds, begun)
            self.assertEqual(read_beginning(kinds, text), told_seeds(begun))
            self.assertEqual(beginning_text(kinds, as_tuples(shuffled(chance, begun))), text)
            self.assertEqual(plain_line(text, True), as_lists(told_seeds(begun)))
        self.new_each_time(read_stands, CLOSE, "a:b\n\n")

    def test_bent(self):
        chance = chance_of(240)
        seen = {True: 0, False: 0}
        for kinds in (CLOSE, SHOPS, LINES):
            ends = line_ends(kinds)
            for _ in range(500):
                text = bent(chance, stand_text(kinds, random_stand(chance, kinds, 5)), ["a:b", "c:c", "b:a"])
                if chance.random() < 0.3:
                    text = bent(chance, text) if text else text
                found = stand_text_fault(kinds, text)
                self.assertEqual(found, plain_fault(text, is_right_line(kinds, False), ends), text)
                seen[found is None] += 1
                if found is None:
                    self.assertEqual(read_stand(kinds, text), told(plain_line(text, False)))
            for _ in range(150):
                stands = [random_stand(chance, kinds, 3) for _ in range(3)]
                text = bent(chance, stands_text(kinds, stands), ["a:b"])
                self.assertEqual(stands_text_fault(kinds, text), plain_fault(text, are_right_lines(kinds), ends), text)
        self.assertGreater(min(seen.values()), 100)


class BeginningText(TextCase):

    def test_written(self):
        begun = [("shop", "open", [("order", "new", [], True)], False)]
        self.assertEqual(beginning_text(SHOPS, begun), "shop:open(*order:new)\n")
        self.assertEqual(beginning_text(kinds=SHOPS, beginning=[]), "\n")
        # Told: with a seed that has not many ahead of the like one that has.
        more = [*begun, ("shop", "open", [("order", "new", [], False)], True), ("shop", "open", [], True), ("shop", "open", [], False)]
        self.assertEqual(beginning_text(SHOPS, more), "shop:open *shop:open *shop:open(order:new) shop:open(*order:new)\n")
        self.assertEqual(read_beginning(kinds=SHOPS, text="*shop:shut shop:open(*order:paid,order:new)\n"), (
            ("shop", "open", (("order", "new", (), False), ("order", "paid", (), True)), False), ("shop", "shut", (), True)))

    def test_faults(self):
        self.faults(BadBeginningText, read_beginning, beginning_text_fault, (SHOPS,), [
            ("\n", None), ("*", (1, 2)), ("**", (1, 2)), ("*shop", (1, 6)), ("* shop", (1, 2)), ("*\n", (1, 2)), ("*order", (1, 2)),
            ("*shop:open\n", None), ("shop:*open\n", (1, 6)), ("shop*", (1, 5)), ("shop:open*\n", (1, 10)), ("shop:open(*)", (1, 12)),
            ("shop:open(*order:new,**order:new)\n", (1, 23)), ("shop:open(*order:new,*order:new)\n", None), ("shop:open(*shop", (1, 12)),
            ("*shop:open *shop:open", (1, 22)), ("", (1, 1)), ("*shop:open\n\n", (2, 1)), ("shop:open(order:new(*", (1, 20)),
        ])

    def test_bent(self):
        chance = chance_of(241)
        seen = {True: 0, False: 0}
        for kinds in (CLOSE, SHOPS):
            ends = line_ends(kinds)
            for _ in range(500):
                text = bent(chance, beginning_text(kinds, random_beginning(chance, kinds, 5)), ["*a:b", "b:a"])
                found = beginning_text_fault(kinds, text)
                self.assertEqual(found, plain_fault(text, is_right_line(kinds, True), ends), text)
                seen[found is None] += 1
        self.assertGreater(min(seen.values()), 50)


class Limits(Case):

    def test_limits(self):
        """Texts of three thousand signs, and wider and deeper ones."""
        kinds = Kinds([("abcdefg1", "", ["m1", "m2"], False), *[(f"abcdefg{at}", f"abcdefg{at - 1}", ["m1", "m2"], False) for at in range(2, 7)]])
        word = "abcdefg6:m1"
        for at in range(5, 0, -1):
            word = f"abcdefg{at}:m2({word},{word})" if at > 1 else f"abcdefg{at}:m2({word})"
        text = " ".join([word] * 15) + "\n"
        self.assertGreater(len(text), 3000)
        found = self.soon(read_stand, kinds, text)
        self.assertEqual(self.soon(stand_text, kinds, found), text)
        self.assertEqual(self.soon(stand_text_fault, kinds, text[:-1] + "(x"), (1, len(text)))
        self.assertEqual(self.soon(stands_text_fault, kinds, text * 2 + "y"), (3, 1))
        self.assertEqual(len(self.soon(read_stands, kinds, "\n" * 3000)), 3000)
        self.assertIsNone(self.soon(beginning_text_fault, kinds, "*" + text.replace(" ", " *")))
