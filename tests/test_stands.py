"""[4.1], [4.2], [4.6]: records, stands, their told form, otherwise called."""

from anywithin.errors import BadKinds, BadMate, BadNames, BadStand
from anywithin.kinds import Kinds, kinds_called
from anywithin.paths import paths_of
from anywithin.stands import are_alike, is_record, is_stand, size_of, stand_called, stand_fault, told_stand
from tests.helpers import (
    KINDS, ROWS, WIDE, Case, Sour, all_heaps, as_lists, as_tuples, chance_of, odd_things, paths, random_stand, shuffled,
    size, told, written,
)

STAND = [("shop", "open", [("order", "paid", []), ("order", "new", [("line", "ok", [])])])]


class Judged(Case):

    def test_example(self):
        self.assertEqual(stand_fault(KINDS, [("shop", "open", [("line", "ok", [])])]), ("kind", (0, 0)))
        self.assertIs(is_stand(KINDS, [("shop", "open", [("line", "ok", [])])]), False)
        self.assertIs(is_stand(KINDS, STAND), True)

    def test_records(self):
        for record in (("shop", "open", []), ("order", "new", ()), ["line", "ok", []], STAND[0],
                       ("order", "new", [("line", "ok", [])])):
            self.assertIs(is_record(KINDS, record), True)
            self.assertIs(is_record(kinds=KINDS, thing=as_lists(record)), True)
        for thing in (("shop", "new", []), ("order", "new", [("order", "new", [])]), ("line", "ok"), "abc", STAND,
                      ("line", "ok", None), ("line", "ok", ""), ("shop", "open", [("line", "ok", [])]), ("", "", [])):
            self.assertIs(is_record(KINDS, thing), False)

    def test_faults(self):
        good = ("shop", "open", [])
        for thing, fault in (
            ([], None), ((), None), (STAND, None), (as_lists(STAND), None), (as_tuples(STAND), None),
            (None, ("list", ())), ("", ("list", ())), ({}, ("list", ())), (5, ("list", ())), (Sour(), ("list", ())),
            ([good, None], ("record", (1,))), ([good, "abc"], ("record", (1,))), ([("shop", "open")], ("record", (0,))),
            ([("shop", "open", [], 1)], ("record", (0,))), ([("order", "new", [])], ("kind", (0,))),
            ([("nix", "x", None)], ("kind", (0,))), ([("shop", "new", None)], ("mark", (0,))),
            ([("shop", ["open"], None)], ("mark", (0,))), ([(["shop"], 1, None)], ("kind", (0,))),
            ([("shop", "open", None)], ("list", (0,))), ([("shop", "open", "")], ("list", (0,))),
            ([good, ("shop", "open", {})], ("list", (1,))),
            ([("shop", "open", [("order", "new", []), ("order", "ok", [])])], ("mark", (0, 1))),
            ([("shop", "open", [("order", "new", [("line", "ok", None)])])], ("list", (0, 0, 0))),
            ([("shop", "open", [("order", "new", [("line", "ok", [[]])])])], ("record", (0, 0, 0, 0))),
            ([("shop", "open", [("order", "new", [("line", "ok", [("line", "ok", [])])])])], ("kind", (0, 0, 0, 0))),
        ):
            self.assertEqual(stand_fault(KINDS, thing), fault)
            self.assertIs(is_stand(KINDS, thing), fault is None)

    def test_first_of_two_faults(self):
        # A record goes ahead of what lies in it, all of that ahead of the next record.
        bad = [("shop", "new", [("line", "ok", [])]), None]
        self.assertEqual(stand_fault(KINDS, bad), ("mark", (0,)))
        bad[0] = ("shop", "open", [("order", "new", [None]), ("line", "ok", [])])
        self.assertEqual(stand_fault(KINDS, bad), ("record", (0, 0, 0)))
        bad[0] = ("shop", "open", [("order", "new", []), ("line", "ok", [])])
        self.assertEqual(stand_fault(KINDS, bad), ("kind", (0, 1)))
        # Ways go by the lists as they were passed, not by the told form.
        bad = [("shop", "shut", [("order", "paid", [None]), ("order", "new", [])]), ("shop", "open", [])]
        self.assertEqual(stand_fault(KINDS, bad), ("record", (0, 0, 0)))
        fault = stand_fault(kinds=KINDS, thing=bad)
        self.assertIs(type(fault), tuple)
        self.assertIs(type(fault[1]), tuple)

    def test_any_object(self):
        for thing in odd_things():
            fault = stand_fault(KINDS, thing)
            self.assertIs(is_stand(KINDS, thing), fault is None)
            self.assertIs(type(is_record(KINDS, thing)), bool)
            self.assertEqual(fault is None, written(thing) in ("[]", "()", "[['shop', 'open', []]]"))
            self.assertIsNotNone(stand_fault(KINDS, [("shop", "open", [("order", "new", [thing])])]))

    def test_a_long_thing(self):
        self.assertEqual(self.soon(stand_fault, KINDS, [("shop", "open", [])] * 100000 + [1]), ("record", (100000,)))

    def test_bad_kinds(self):
        for call in (is_record, is_stand, stand_fault):
            for thing in (None, ROWS, {}, Sour(), Kinds):
                self.raised(BadKinds, thing, call, thing, None)


class Told(Case):

    TOLD = (("shop", "open", (("order", "new", (("line", "ok", ()),)), ("order", "paid", ()))),)

    def test_example(self):
        self.assertEqual(told_stand(KINDS, STAND), self.TOLD)

    def test_forms(self):
        for stand in (STAND, as_lists(STAND), as_tuples(STAND), [STAND[0]], self.TOLD):
            self.assertEqual(told_stand(kinds=KINDS, stand=stand), self.TOLD)
        self.assertEqual(told_stand(KINDS, []), ())

    def test_kinds_then_marks_then_parts(self):
        stand = [("can", "a", []), ("bin", "b", []), ("bin", "a", [("jar", "x", []), ("cup", "y", [])]),
                 ("bin", "a", [("cup", "y", [("pea", "v", []), ("pea", "u", [])])]), ("bin", "a", [])]
        self.assertEqual(told_stand(WIDE, stand), (
            ("bin", "a", ()),
            ("bin", "a", (("cup", "y", ()), ("jar", "x", ()))),
            ("bin", "a", (("cup", "y", (("pea", "u", ()), ("pea", "v", ()))),)),
            ("bin", "b", ()),
            ("can", "a", ()),
        ))

    def test_many_shapes(self):
        chance = chance_of(1)
        for number in range(200):
            stand = random_stand(chance, WIDE, number % 12)
            wanted = told(stand)
            self.assertEqual(told_stand(WIDE, stand), wanted)
            other = shuffled(chance, stand)
            self.assertEqual(told_stand(WIDE, other), wanted)
            self.assertIs(are_alike(WIDE, stand, as_tuples(other)), True)
            self.assertEqual(size_of(WIDE, other), size(stand))
            self.new_each_time(told_stand, WIDE.all_rows() and WIDE, stand)

    def test_alike_just_if_told_alike(self):
        heaps = all_heaps(KINDS, 3)
        for one in heaps:
            for other in heaps:
                self.assertIs(are_alike(KINDS, as_lists(one), other), one == other)

    def test_size(self):
        self.assertEqual(size_of(KINDS, STAND), 4)
        self.assertEqual(size_of(kinds=KINDS, stand=()), 0)
        self.assertEqual(size_of(KINDS, [("shop", "open", [])] * 3), 3)

    def test_errors(self):
        bad = [("shop", "open", []), ("shop", "open", [("order", "new", [5])])]
        for call in (told_stand, size_of):
            for stand, index in ((bad, 1), (None, 0), ("", 0), ([5], 0), ([("order", "new", [])], 0)):
                self.raised(BadStand, index, call, KINDS, stand)
                self.raised(BadStand, index, are_alike, KINDS, stand, stand)
                self.raised(BadMate, index, are_alike, kinds=KINDS, stand=[], mate=stand)
            self.raised(BadKinds, None, call, None, None)
        self.raised(BadKinds, ROWS, are_alike, ROWS, None, None)


class Called(Case):

    NAMES = {"shop": "x", "order": "y", "line": "z", "open": "m", "shut": "k", "new": "b", "paid": "a", "ok": "x"}

    def test_called(self):
        stand = [*STAND, ("shop", "shut", [])]
        self.assertEqual(stand_called(KINDS, stand, self.NAMES), (
            ("x", "k", ()), ("x", "m", (("y", "a", ()), ("y", "b", (("z", "x", ()),))))))
        self.assertEqual(stand_called(kinds=KINDS, stand=[], names=self.NAMES), ())

    def test_it_holds(self):
        kinds = kinds_called(KINDS, self.NAMES)
        heaps = all_heaps(KINDS, 3)
        led = [stand_called(KINDS, as_lists(heap), self.NAMES) for heap in heaps]
        self.assertEqual(len(set(led)), len(heaps))
        for heap, other in zip(heaps, led):
            self.assertEqual(told_stand(kinds, other), other)
            self.assertEqual(len(paths_of(kinds, other)), len(paths(heap)))

    def test_errors(self):
        self.raised(BadKinds, None, stand_called, None, None, None)
        self.raised(BadStand, 0, stand_called, KINDS, None, None)
        self.raised(BadStand, 1, stand_called, KINDS, [STAND[0], 5], None)
        for names in (None, {}, {**self.NAMES, "open": "k"}, {**self.NAMES, "more": "k"}):
            self.raised(BadNames, names, stand_called, KINDS, STAND, names)
