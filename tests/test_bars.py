"""[5.3], [5.6]: bars."""

from anywithin.bars import bar, bar_fault
from anywithin.errors import BadKinds, BadLess, BadMore
from anywithin.placings import lies_in, placing, placing_fault
from tests.helpers import (
    GREAT, KINDS, SHOPS, WIDE, Case, Sour, all_heaps, as_lists, as_tuples, chance_of, mutables, odd_things, plain_lies,
    random_stand, shuffled, told, written,
)

N, P = ("order", "new", ()), ("order", "sent", ())


def shops(*parts):
    return tuple(("shop", "open", part) for part in parts)


LESS, MORE = shops((N, N), (N, N)), shops((N, N, N), (N, P))
INNER = ([0, 1], [0], {})
BAR = ([0, 1], [0], {(0, 1): INNER, (1, 1): INNER})


class Bars(Case):

    def test_example(self):
        found = bar(SHOPS, LESS, MORE)
        self.assertEqual(found, BAR)
        self.assertEqual(repr(found), repr(BAR))
        self.assertIsNone(bar_fault(SHOPS, LESS, MORE, BAR))
        self.assertIsNone(bar(SHOPS, shops((N,), (N, N)), MORE))
        self.new_each_time(bar, SHOPS, as_lists(LESS), as_lists(MORE))

    def test_none(self):
        self.assertIsNone(bar(kinds=SHOPS, less=[], more=[]))
        self.assertEqual(bar(SHOPS, [("shop", "open", [])], []), ([0], [], {}))
        self.assertEqual(bar(SHOPS, [("shop", "open", [])], [("shop", "shut", [])]), ([0], [], {}))
        for thing in (None, ([], [], {}), ([], [0], {}), {}, ([0], [], {})):
            self.assertIsNotNone(bar_fault(SHOPS, [], MORE, thing))

    def check(self, kinds, less, more):
        """Just one of a placing and a bar is there, and each is judged right."""
        wanted = plain_lies(less, more)
        found, barred = placing(kinds, less, more), bar(kinds, less, more)
        self.assertEqual((found is not None, barred is not None), (wanted, not wanted))
        if wanted:
            self.assertIsNone(placing_fault(kinds, less, more, found))
        else:
            self.assertIsNone(bar_fault(kinds, less, more, barred))
            self.rising(barred)
            parts = mutables(barred)
            self.assertEqual(len({id(part) for part in parts}), len(parts))
        return barred

    def rising(self, barred):
        self.assertIs(type(barred), tuple)
        self.assertIs(type(barred[0]), list)
        self.assertIs(type(barred[1]), list)
        self.keys_rise(barred[2])
        for inner in barred[2].values():
            self.rising(inner)

    def test_just_one(self):
        for kinds, most in ((KINDS, 4), (SHOPS, 4)):
            heaps = all_heaps(kinds, most)
            for index, less in enumerate(heaps):
                for more in heaps[index % 11::11]:
                    self.check(kinds, less, more)

    def test_just_one_at_random(self):
        chance = chance_of(21)
        for _ in range(400):
            less = told(random_stand(chance, WIDE, chance.randrange(7), 1))
            more = told(random_stand(chance, WIDE, chance.randrange(9), 1))
            found = self.check(WIDE, less, more)
            self.assertEqual(bar(WIDE, shuffled(chance, less), as_tuples(shuffled(chance, more))), found)

    def test_no_bar_where_one_lies_in_the_other(self):
        # All triples of the outermost form are tried where the stands are small.
        less, more = told(shops((N,), ())), told(shops((N, P), ()))
        lots = ([], [0], [1], [0, 1])
        for mine in lots:
            for theirs in lots:
                pairs = [(j, t) for j in mine for t in (0, 1) if t not in theirs]
                for inner in (([0], [], {}), None):
                    thing = (mine, theirs, {pair: inner for pair in pairs})
                    self.assertIsNotNone(bar_fault(SHOPS, less, more, thing))

    def test_errors(self):
        bad = [("shop", "open", []), ("shop", "open", [5])]
        for call, rest in ((bar, ()), (bar_fault, (None,))):
            self.raised(BadKinds, None, call, None, None, None, *rest)
            for stand, index in ((bad, 1), (None, 0), ("", 0), ([5], 0)):
                self.raised(BadLess, index, call, SHOPS, stand, None, *rest)
                self.raised(BadMore, index, call, SHOPS, [], stand, *rest)

    def test_great_stands(self):
        alike = shops(*[()] * 40)
        for less, more in (
            (alike, alike[1:]), (alike, [("shop", "shut", ())] * 40), ([("shop", "open", (N,) * 39)], [("shop", "open",
            (P,) * 39)]),
            (shops(*[(N,)] * 20), shops(*[(P,)] * 20)), (shops(*[(N,)] * 20), shops(*[(N,)] * 19, ())),
            (shops(*[(N, N)] * 13), shops(*[(N, P)] * 13)), (shops((N,) * 19, (N,) * 19), shops((N,) * 19, (N,) * 18,
            ())),
        ):
            found = self.soon(bar, SHOPS, less, more)
            self.assertIsNotNone(found)
            self.assertIsNone(self.soon(bar_fault, SHOPS, less, more, found))
            self.assertIs(lies_in(SHOPS, less, more), False)


class Judged(Case):

    def fault(self, thing):
        return bar_fault(SHOPS, LESS, MORE, thing)

    def test_forms(self):
        for thing in (as_lists(BAR), as_tuples(BAR), ((0, 1), [0], {(1, 1): INNER, (0, 1): as_lists(INNER)})):
            self.assertIsNone(bar_fault(kinds=SHOPS, less=as_lists(LESS), more=MORE[::-1], thing=thing))

    def test_form(self):
        for thing in odd_things():
            fault = bar_fault(SHOPS, LESS, MORE, thing)
            self.assertIn(fault, (("form", ()), ("few", ()), ("pairs", ())))
            fault = self.fault(([0, 1], [0], {(0, 1): thing, (1, 1): INNER}))
            self.assertEqual(fault[1][:1], ((0, 1),))
            word = "few" if written(thing) in ("[]", "()", "[0]") else "form"
            self.assertEqual(self.fault((thing, [0], BAR[2])), (word, ()))
            self.assertEqual(self.fault(([0, 1], [0], thing)), ("pairs" if isinstance(thing, dict) else "form", ()))
        for mine in ([1, 0], [0, 0], [0, 2], [-1, 0], [0, True], [False, 1], [0.0, 1], ["0", "1"], [0, GREAT], [None,
                1],
                     [[0], 1], "01", {0: 0, 1: 1}, {0, 1}, None):
            self.assertEqual(self.fault((mine, [0], BAR[2])), ("form", ()))
            self.assertEqual(self.fault(([0, 1], mine, {})), ("form", ()))
        self.assertEqual(self.fault((*BAR, 1)), ("form", ()))
        self.assertEqual(self.fault(BAR[:2]), ("form", ()))
        for inner in ([], None, [((0, 1), INNER)]):
            self.assertEqual(self.fault(([0, 1], [0], inner)), ("form", ()))

    def test_few(self):
        for mine, theirs in (([0, 1], [0, 1]), ([0], [0]), ([0], [0, 1]), ([], []), ([], [0])):
            self.assertEqual(self.fault((mine, theirs, {})), ("few", ()))
        self.assertEqual(self.fault(([0, 1], [0], {(0, 1): INNER, (1, 1): ([0], [0], {})})), ("few", ((1, 1),)))

    def test_pairs(self):
        for change in ({}, {(0, 1): INNER}, {**BAR[2], (0, 0): INNER}, {**BAR[2], (2, 1): INNER}, {**BAR[2], 0: INNER},
                       {(0, 1): INNER, (1.0, 1): INNER}, {(0, True): INNER, (1, 1): INNER}, {(False, 1): INNER, (1,
                       1): INNER},
                       {(0, 1): INNER, Sour(): INNER}, {(0, 1): INNER, (1, 1, 1): INNER}, {(0, 1): INNER, "11": INNER},
                       {(0, 1): INNER, (0, 0): INNER}, {(0, 1): INNER, (2, 1): INNER}, {(0, 1): INNER, (1,): INNER},
                       {(0, 1): INNER, ((1,), 1): INNER}):
            self.assertEqual(self.fault(([0, 1], [0], change)), ("pairs", ()))
        # Where the kinds or marks are unlike no pair is wanted.
        self.assertEqual(bar_fault(SHOPS, [("shop", "shut", [])], MORE, ([0], [], {(0, 0): INNER})), ("pairs", ()))
        self.assertIsNone(bar_fault(SHOPS, [("shop", "shut", [])], MORE, ([0], [], {})))
        self.assertEqual(self.fault(([0], [], {(0, 1): INNER})), ("pairs", ()))

    def test_first_of_two_faults(self):
        few, pairs, form = ([0], [0], {}), ([0], [], {}), None
        for one in (few, pairs, form):
            for other in (few, pairs, form):
                word = {id(few): "few", id(pairs): "pairs", id(form): "form"}[id(one)]
                self.assertEqual(self.fault(([0, 1], [0], {(1, 1): other, (0, 1): one})), (word, ((0, 1),)))
        # What is wrong itself goes ahead of what is wrong within; form ahead of few ahead of pairs.
        self.assertEqual(self.fault(([0, 1], [0], {(0, 1): form})), ("pairs", ()))
        self.assertEqual(self.fault(([0, 1], [0, 1], {(0, 1): form})), ("few", ()))
        self.assertEqual(self.fault(([0, 1], [0, 2], {(0, 1): form})), ("form", ()))

    def test_ways_lead_inward(self):
        line = ("line", "ok", ())
        less = [("shop", "open", [("order", "new", [line, line])])]
        more = [("shop", "open", [("order", "new", [line])])]
        found = bar(KINDS, less, more)
        self.assertEqual(found, ([0], [], {(0, 0): ([0], [], {(0, 0): ([0, 1], [0], {})})}))
        for thing, fault in ((([0], [], {(0, 0): ([0], [], {(0, 0): ([0, 1], [], {})})}), ("pairs", ((0, 0), (0, 0)))),
                             (([0], [], {(0, 0): ([0], [], {(0, 0): None})}), ("form", ((0, 0), (0, 0)))),
                             (([0], [], {(0, 0): ([0], [], {})}), ("pairs", ((0, 0),))), (([0], [], {}), ("pairs",
                             ()))):
            self.assertEqual(bar_fault(KINDS, less, more, thing), fault)

    def test_all_wrong_bars_of_small_stands(self):
        # Each triple is right just if too few places are left, all others being barred: told by a plain look.
        less, more = told(shops((N,), (N,))), told(shops((N,), ()))
        lots = ([], [0], [1], [0, 1])
        right = []
        for mine in lots:
            for theirs in lots:
                pairs = [(j, t) for j in mine for t in (0, 1) if t not in theirs]
                thing = (mine, theirs, {pair: ([0], [], {}) for pair in pairs})
                if bar_fault(SHOPS, less, more, thing) is None:
                    right.append((mine, theirs))
        self.assertEqual(right, [([0, 1], [1])])
