"""[3.1] to [3.5]: rows, Kinds, of one kind, otherwise called."""

import copy

from anywithin.errors import BadKind, BadKinds, BadNames, BadRows
from anywithin.kinds import Kinds, is_row, kinds_called
from tests.helpers import GREAT, KINDS, ROWS, WIDE, Case, Sour, as_lists, as_tuples, odd_things, written


def row(kind, above="", marks=("a",), lasts=False):
    return (kind, above, list(marks), lasts)


class Rows(Case):

    def test_rows(self):
        for good in (*ROWS, row("a"), row("abcdefgh"), row("a1234567"), row("a", "b"), row("a", "a"),
                     row("a", marks=["a", "b", "a1"]), row("a", lasts=True), row("z9", "y0", ("q",))):
            self.assertIs(is_row(good), True)
            self.assertIs(is_row(as_lists(good)), True)
            self.assertIs(is_row(as_tuples(good)), True)

    def test_names(self):
        for bad in ("", "1a", "abcdefghi", "A", "aB", "a_b", "a-b", "a b", " a", "a ", "a\n", "\u00e9", "a\u00e9",
                    "a\u0661", "\u0430", 5, None, b"a", ["a"], {"a": 1}, True, Sour()):
            self.assertIs(is_row((bad, "", ["a"], False)), False)
            self.assertIs(is_row(("a", "", [bad], False)), False)
            self.assertIs(is_row(("a", "", ["a", bad], False)), False)
            if not isinstance(bad, str) or bad:
                self.assertIs(is_row(("a", bad, ["a"], False)), False)

    def test_wrong_rows(self):
        for bad in (("a", "", [], False), ("a", "", (), False), ("a", "", ["b", "b"], False), ("a", "", "b", False),
                    ("a", "", {"b": 1}, False), ("a", "", {"b"}, False), ("a", "", None, False), ("a", "", ["a"], 0),
                    ("a", "", ["a"], 1), ("a", "", ["a"], None), ("a", "", ["a"]), ("a", "", ["a"], True, 1), (), [],
                    "a,b,", {"a": 1, "b": 2, "c": 3, "d": 4}, ("a", None, ["a"], False), ("a", [], ["a"], False)):
            self.assertIs(is_row(bad), False)

    def test_any_object(self):
        for thing in odd_things():
            self.assertIs(is_row(thing=thing), False)
            self.assertIs(is_row(("a", "", thing, False)), written(thing) in ("['shop']", "['shop', 'open']"))
            self.assertIs(is_row((thing, "", ["a"], False)), type(thing) is str and 0 < len(thing) < 9)


class Table(Case):

    def test_all_rows(self):
        told = [("line", "order", ("ok",), False), ("order", "shop", ("new", "paid"), False),
                ("shop", "", ("open", "shut"), True)]
        for rows in (ROWS, ROWS[::-1], as_lists(ROWS), as_tuples(ROWS), told):
            self.assertEqual(Kinds(rows).all_rows(), told)
            self.assertEqual(Kinds(rows=rows).all_kinds(), ["line", "order", "shop"])
        self.assertEqual(Kinds([]).all_rows(), [])
        self.assertEqual(Kinds(()).all_kinds(), [])
        for one in KINDS.all_rows():
            self.assertIs(type(one), tuple)
            self.assertIs(type(one[2]), tuple)
        self.new_each_time(KINDS.all_rows)
        self.new_each_time(KINDS.all_kinds)

    def test_first_wrong_row(self):
        for rows, index in (
            (None, 0), ("abc", 0), ({}, 0), (Sour(), 0), (5, 0),
            ([row("a"), None], 1), ([row("a"), row("b"), row("a", "b")], 2), ([row("a"), row("a")], 1),
            ([row("a"), "abcd"], 1), ([row("a", "b")], 0), ([row("a"), row("b", "c")], 1), ([row("a", "a")], 0),
            ([row("z"), row("a", "b"), row("b", "a")], 1), ([row("c", "a"), row("a", "b"), row("b", "a")], 1),
            ([row("a", "b", lasts=True), row("b")], 0), ([row("a"), row("b", "a", lasts=True)], 1),
            # What is no row goes ahead of what stands wrongly among the others.
            ([row("a", "x"), row("b"), 7], 2), ([row("a", "a"), row("b"), row("b")], 2),
            ([row("b", "a", lasts=True), row("a"), row("c", "c")], 0),
            ([row("a"), row("c", "c"), row("b", "a", lasts=True)], 1),
            ([row("a", "b"), row("b", "c"), row("c", "d"), row("d", "b")], 1),
        ):
            self.raised(BadRows, index, Kinds, rows)
            if isinstance(rows, list):
                self.raised(BadRows, index, Kinds, tuple(rows))

    def test_right_rows(self):
        for rows in ([row("b", "a"), row("a")], [row("a", lasts=True), row("b", "a", lasts=True), row("c", "b")],
                     [row("a", lasts=True), row("b")], [row("b", "a", ["a", "b"]), row("a", "", ["a", "b"])]):
            self.assertEqual(len(Kinds(rows).all_rows()), len(rows))

    def test_equal(self):
        self.assertTrue(Kinds(ROWS) == Kinds(as_lists(ROWS[::-1])))
        self.assertFalse(Kinds(ROWS) != Kinds(ROWS[::-1]))
        for number, change in ((0, "shops"), (2, ["open"]), (3, False)):
            rows = [list(one) for one in ROWS]
            rows[0][number] = change
            if number == 0:
                rows[1][1] = change
            self.assertFalse(Kinds(rows) == KINDS)
            self.assertTrue(Kinds(rows) != KINDS)
        self.assertFalse(Kinds([row("a"), row("b")]) == Kinds([row("a"), row("b", "a")]))
        self.assertFalse(Kinds([]) == Kinds([row("a")]))
        for thing in (None, ROWS, KINDS.all_rows(), 0, "", object(), Sour()):
            self.assertIs(KINDS == thing, False)
        self.assertIs(KINDS == _Any(), False)

    def test_later_changes(self):
        rows = as_lists(ROWS)
        kinds = Kinds(rows)
        rows[0][2].append("gone")
        rows[1][1] = ""
        rows.pop()
        self.assertTrue(kinds == KINDS)
        rows = as_lists(ROWS)
        before = copy.deepcopy(rows)
        Kinds(rows)
        self.assertEqual(rows, before)

    def test_many_rows_are_soon_judged(self):
        chain = [row("k%d" % index, "k%d" % (index - 1)) for index in range(1, 20000)]
        self.soon(self.raised, BadRows, 0, Kinds, chain)
        ring = [row("k0", "k19999"), *chain]
        self.soon(self.raised, BadRows, 0, Kinds, ring)


class _Any:

    def __eq__(self, other):
        return True

    def __hash__(self):
        return 0


class OfOne(Case):

    def test_example(self):
        self.assertEqual(KINDS.level("line"), 3)
        self.assertEqual(KINDS.within("shop"), ["line", "order"])
        self.assertEqual(KINDS.marks("order"), ["new", "paid"])
        self.raised(BadRows, 2, Kinds, [*ROWS[:2], ("line", "line", ["ok"], False)])
        self.raised(BadRows, 2, Kinds, [*ROWS[:2], ("line", "order", ["ok"], True)])

    def test_each(self):
        self.assertEqual([KINDS.above(kind) for kind in ("shop", "order", "line")], ["", "shop", "order"])
        self.assertEqual([KINDS.level(kind=kind) for kind in ("shop", "order", "line")], [1, 2, 3])
        self.assertEqual([KINDS.lasts(kind) for kind in ("shop", "order", "line")], [True, False, False])
        self.assertEqual(KINDS.marks(kind="shop"), ["open", "shut"])
        self.assertEqual(WIDE.parts(""), ["bin", "can"])
        self.assertEqual(WIDE.parts("bin"), ["cup", "jar"])
        self.assertEqual(WIDE.parts(kind="jar"), [])
        self.assertEqual(WIDE.within(""), ["bin", "can", "cup", "jar", "pea"])
        self.assertEqual(WIDE.within("bin"), ["cup", "jar", "pea"])
        self.assertEqual(WIDE.within(kind="can"), [])
        self.assertEqual(WIDE.above(kind="pea"), "cup")
        self.assertIs(WIDE.lasts(kind="can"), True)
        self.assertEqual(Kinds([]).parts(""), [])
        self.assertEqual(Kinds([]).within(""), [])

    def test_marks_rise(self):
        kinds = Kinds([("a", "", ["z", "b1", "b", "a9"], False)])
        self.assertEqual(kinds.marks("a"), ["a9", "b", "b1", "z"])

    def test_six_levels(self):
        kinds = Kinds([row("k%d" % index, "k%d" % (index - 1) if index else "") for index in range(6)])
        self.assertEqual([kinds.level("k%d" % index) for index in range(6)], [1, 2, 3, 4, 5, 6])
        self.assertEqual(kinds.within("k3"), ["k4", "k5"])
        self.assertEqual(kinds.within(""), ["k0", "k1", "k2", "k3", "k4", "k5"])

    def test_new_each_time(self):
        for call, kind in ((KINDS.marks, "order"), (KINDS.parts, "shop"), (KINDS.within, "shop"), (KINDS.parts, ""),
                           (KINDS.within, "")):
            self.new_each_time(call, kind)

    def test_no_kind(self):
        for thing in (None, 5, True, ["shop"], ("shop",), {"shop": 1}, b"shop", "Shop", "open", Sour(), GREAT):
            for call in (KINDS.above, KINDS.marks, KINDS.lasts, KINDS.level, KINDS.parts, KINDS.within):
                self.raised(BadKind, thing, call, thing)
        for call in (KINDS.above, KINDS.marks, KINDS.lasts, KINDS.level):
            self.raised(BadKind, "", call, "")


class Called(Case):

    NAMES = {"shop": "s", "order": "o", "line": "l", "open": "a", "shut": "b", "new": "b", "paid": "a", "ok": "s"}

    def test_called(self):
        kinds = kinds_called(KINDS, self.NAMES)
        self.assertEqual(kinds.all_rows(), [("l", "o", ("s",), False), ("o", "s", ("a", "b"), False),
                                            ("s", "", ("a", "b"), True)])
        back = dict(reversed(list(self.NAMES.items())))
        self.assertTrue(kinds_called(kinds=KINDS, names=back) == kinds)
        same = {name: name for name in self.NAMES}
        self.assertTrue(kinds_called(KINDS, same) == KINDS)
        self.assertEqual(kinds_called(Kinds([]), {}).all_rows(), [])

    def test_led_alike(self):
        kinds = Kinds([("a", "", ["a", "b"], False), ("b", "a", ["b"], False)])
        self.assertEqual(kinds_called(kinds, {"a": "b", "b": "a"}).all_rows(),
                         [("a", "b", ("a",), False), ("b", "", ("a", "b"), False)])

    def test_bad_names(self):
        for change in ({"shop": "o"}, {"open": "b"}, {"ok": ""}, {"ok": 5}, {"ok": None}, {"ok": ["a"]}, {"more": "m"},
                       {"": "m"}, {None: "m"}, {5: "m"}, {"line": "Line"}, {"paid": "b"}, {Sour(): "m"}):
            names = {**self.NAMES, **change}
            self.raised(BadNames, names, kinds_called, KINDS, names)
        for name in self.NAMES:
            names = {key: self.NAMES[key] for key in self.NAMES if key != name}
            self.raised(BadNames, names, kinds_called, KINDS, names)
            names = {**names, "other": "x"}
            self.raised(BadNames, names, kinds_called, KINDS, names)
        for thing in (None, [], "shop", 5, list(self.NAMES.items()), Sour()):
            self.raised(BadNames, thing, kinds_called, KINDS, thing)

    def test_kinds_go_first(self):
        for thing in (None, ROWS, Sour(), {}, Kinds):
            self.raised(BadKinds, thing, kinds_called, thing, None)
