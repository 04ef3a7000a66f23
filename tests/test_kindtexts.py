"""[23.1], [23.2], [23.7], [23.8]: kinds as text."""

import re

from anywithin.errors import BadKinds
from anywithin.kinds import Kinds
from anywithin.kindtexts import kinds_text, kinds_text_fault, read_kinds
from anywithin.refusals import BadKindsText
from tests.helpers import KINDS, WIDE, chance_of
from tests.test_most import NO_KINDS
from tests.texting import TextCase, bent, plain_fault
from tests.trials import BIG_KINDS, SOME_KINDS

SHOPS = Kinds([("shop", "", ["open", "shut"], True), ("order", "shop", ["new", "paid"], False)])
TEXT = "top shop lasts open shut\nin shop order goes new paid\n"
NAME = "[a-z][a-z0-9]{0,7}"
LINE = re.compile(f"(top|in ({NAME})) ({NAME}) (lasts|goes)((?: {NAME})+)")


def is_right(text):
    """Whether a text is one of kinds, by a plain look at its lines."""
    if text == "":
        return True
    if not text.endswith("\n"):
        return False
    seen = {}
    for line in text[:-1].split("\n"):
        found = LINE.fullmatch(line)
        if found is None:
            return False
        _, above, kind, lasts, marks = found.groups()
        marks = marks.split()
        if kind in seen or len(set(marks)) < len(marks) or (above is not None and above not in seen):
            return False
        if lasts == "lasts" and above is not None and not seen[above]:
            return False
        seen[kind] = lasts == "lasts"
    return True


def ends(text):
    """Ends that may follow, one of which makes a text right that some end makes right."""
    kinds = [line.split(" ")[1 if line.startswith("top") else 2] for line in text.split("\n")[:-1] if line.count(" ") > 2]
    found = ["", "\n"]
    for start in [f"top k{sign} goes m" for sign in "xyz89"] + [f"in {kind} k{sign} goes m" for kind in kinds for sign in "xyz89"]:
        found.extend(start[at:] + "\n" for at in range(len(start)))
    extra = [sign + end for sign in "abcdefghijklmnopqrstuvwxyz0123456789" for end in (" goes m\n", "\n")]
    return found + extra + [f" k{sign} goes m\n" for sign in "xyz"] + [f" {sign}\n" for sign in "wv9" if sign != "9"] + [
        "s m\n", "es m\n", "oes m\n", "ts m\n", "sts m\n", "asts m\n", "x\n", "y\n"]


class KindsText(TextCase):

    def test_example(self):
        self.assertEqual(kinds_text(SHOPS), TEXT)
        self.assertEqual(kinds_text_fault("in shop"), (1, 1))
        self.assertEqual(kinds_text_fault("top shop goes open\nin shop order lasts new\n"), (2, 15))

    def test_order(self):
        kinds = Kinds([("b", "", ["x"], True), ("a", "b", ["z", "y"], True), ("c", "a", ["x"], False), ("aa", "b", ["m"], False),
                       ("a1", "", ["q"], False), ("z", "a1", ["q", "p", "p1"], False), ("d", "a", ["n"], True)])
        self.assertEqual(kinds_text(kinds), (
            "top a1 goes q\nin a1 z goes p p1 q\ntop b lasts x\nin b a lasts y z\nin a c goes x\nin a d lasts n\nin b aa goes m\n"))
        self.assertEqual(kinds_text(kinds=Kinds([])), "")
        self.assertEqual(read_kinds(""), Kinds([]))
        self.assertIsNone(kinds_text_fault(""))

    def test_any_order(self):
        self.assertEqual(read_kinds("top shop lasts shut open\nin shop order goes paid new\n"), SHOPS)
        self.assertEqual(read_kinds(text="top b goes x\ntop a lasts y x\nin b c goes a\nin a d lasts q\n"), Kinds(
            [("b", "", ["x"], False), ("a", "", ["x", "y"], True), ("c", "b", ["a"], False), ("d", "a", ["q"], True)]))
        for kinds in [KINDS, WIDE, SHOPS, *SOME_KINDS, *BIG_KINDS]:
            self.assertEqual(read_kinds(kinds_text(kinds)), kinds)
            self.assertEqual(kinds_text(read_kinds(kinds_text(kinds))), kinds_text(kinds))
            self.assertIsNone(kinds_text_fault(kinds_text(kinds)))

    def test_faults(self):
        self.faults(BadKindsText, read_kinds, kinds_text_fault, (), [
            ("t", (1, 2)), ("x", (1, 1)), ("\n", (1, 1)), (" ", (1, 1)), ("top", (1, 4)), ("top ", (1, 5)), ("top  ", (1, 5)),
            ("topa", (1, 4)), ("top 1", (1, 5)), ("top A", (1, 5)), ("top a_", (1, 6)), ("top a\n", (1, 6)), ("top abcdefgh", (1, 13)),
            ("top abcdefghi", (1, 13)), ("top abcdefgh ", (1, 14)), ("top a x", (1, 7)), ("top a goes", (1, 11)),
            ("top a goess", (1, 11)), ("top a goes\n", (1, 11)), ("top a goes ", (1, 12)), ("top a goes \n", (1, 12)),
            ("top a goes b", (1, 13)), ("top a goes b ", (1, 14)), ("top a goes b \n", (1, 14)), ("top a goes b b\n", (1, 15)),
            ("top a goes b b ", (1, 15)), ("top a goes b bb\n", None), ("top a goes b b1 b\n", (1, 18)), ("top a lasts b\n", None),
            ("top a last b\n", (1, 11)), ("top a goes b\ntop a goes b\n", (2, 6)), ("top a goes b\ntop a", (2, 6)),
            ("top a goes b\ntop ab goes b\n", None), ("top a goes b\n\n", (2, 1)), ("top a goes b\nx", (2, 1)),
            ("top a goes b\nin b c goes d\n", (2, 4)), ("top a goes b\nin a a goes d\n", (2, 7)), ("top a goes b\nin a c lasts d\n", (2, 8)),
            ("top a lasts b\nin a c lasts d\nin c e lasts f\n", None), ("top a lasts b\nin a c goes d\nin c e lasts f\n", (3, 8)),
            ("in a b goes c\ntop a goes b\n", (1, 1)), ("top ab goes b\nin a c goes d\n", (2, 5)), ("top ab goes b\nin ab", (2, 6)),
            ("top ab goes b\ntop a goes b\nin a", (3, 5)), ("top ab goes b\ntop a goes b\nin a c goes d\n", None),
            ("top a goes b\rtop", (1, 13)), ("top a goes b\u00e9\n", (1, 13)), ("top a goes b\n\ud800", (2, 1)),
            ("top a goes b1c2d3e4\n", None), ("top a goes b1c2d3e4f", (1, 20)),
        ])

    def test_names_that_all_stand_there(self):
        """A name of eight signs can't go on; all that begin with seven may stand there."""
        signs = "abcdefghijklmnopqrstuvwxyz0123456789"
        self.faults(BadKindsText, read_kinds, kinds_text_fault, (), [
            ("top abcdefgh goes x\ntop abcdefgh", (2, 12)), ("top abcdefgh goes x\ntop abcdefg\n", (2, 12)),
            ("top abcdefgh goes x\ntop abcdefg goes y\n", None), ("top a goes abcdefgh abcdefgh", (1, 28)),
            ("top a goes abcdefgh abcdefgi", (1, 29)),
        ])
        rows = "".join([f"top abcdefg{sign} goes x\n" for sign in signs])
        line = len(signs) + 1
        self.faults(BadKindsText, read_kinds, kinds_text_fault, (), [
            (rows, None), (rows + "top abcdefg goes x\n", None), (rows + "top abcdefga", (line, 12)),
            (rows + "top abcdefg goes x\ntop abcdefg", (line + 1, 11)), (rows + "top abcdefg goes x\ntop abcdef", (line + 1, 11)),
            (rows[:-len("top abcdefg9 goes x\n")] + "top abcdefg goes x\ntop abcdefg", (line, 12)),
            (rows[:-len("top abcdefg9 goes x\n")] + "top abcdefg goes x\ntop abcdefga", (line, 12)),
            (rows[:-len("top abcdefg9 goes x\n")] + "top abcdefg goes x\ntop abcdefg9 goes x\n", None),
        ])
        marks = " ".join([f"abcdefg{sign}" for sign in signs])
        self.faults(BadKindsText, read_kinds, kinds_text_fault, (), [
            (f"top a goes {marks}\n", None), (f"top a goes {marks} abcdefg abcdefg", (1, 11 + len(marks) + 16)),
            (f"top a goes {marks} abcdefg abcdefh\n", None)])

    def test_no_strings_and_wrong(self):
        self.no_strings(BadKindsText, read_kinds, kinds_text_fault)
        self.refuses(kinds_text, {"kinds": SHOPS}, [("kinds", thing, BadKinds, thing) for thing in NO_KINDS])

    def test_bent(self):
        chance = chance_of(238)
        texts = [TEXT, "top a lasts b c\nin a ab lasts b\nin ab c goes c\n",
                 "top abcdefgh goes a b\ntop b lasts abcdefgh a\n", "top a goes a\n"]
        seen = {True: 0, False: 0}
        for _ in range(1500):
            text = bent(chance, chance.choice(texts), ["top", "in", "goes", "lasts", "a", "b", "x"])
            if chance.random() < 0.3:
                text = bent(chance, text)
            found = kinds_text_fault(text)
            self.assertEqual(found, plain_fault(text, is_right, ends), text)
            seen[found is None] += 1
            if found is None:
                self.assertEqual(read_kinds(kinds_text(read_kinds(text))), read_kinds(text))
        self.assertGreater(min(seen.values()), 100)

    def test_limits(self):
        lines = ["top abcdefgh goes " + " ".join([f"m{index}" for index in range(5)])]
        lines += [f"in abcdefgh k{index} goes " + " ".join([f"m{mark}" for mark in range(5)]) for index in range(90)]
        text = "\n".join(lines) + "\n"
        self.assertGreater(len(text), 3000)
        self.assertEqual(self.soon(kinds_text_fault, text + "in"), (92, 3))
        self.assertEqual(len(self.soon(read_kinds, text).all_kinds()), 91)
        self.assertEqual(self.soon(kinds_text_fault, "top a goes " + " ".join([f"m{index}" for index in range(700)])), (1, 11 + 3389 + 1))
