"""[16.4], [16.5], [16.6]: guards and openings."""

import itertools

from anywithin.errors import BadAsked, BadBeginning, BadPlan
from anywithin.guards import guard_verdict, guarded, guards_fault, is_least_guard, least_guards, least_openings
from anywithin.meeting import least_meeting
from anywithin.plans import is_less
from anywithin.refusals import BadLot, BadMenu
from anywithin.verdicts import judged, verdict
from tests.helpers import (
    GREAT, Case, Sour, as_lists, as_tuples, chance_of, no_beginnings, no_plans, no_stands, odd_things,
    random_beginning, random_stand, told,
)
from tests.test_anyof import BEGINNING, N, NEW_TWICE, shop
from tests.test_asks import FREE, MENU, TWICE
from tests.trials import BIG_KINDS, SOME_KINDS, leading_within, random_place, random_plan

WRONG = [*no_plans(BadPlan), *no_beginnings(BadBeginning), *no_stands(BadAsked, "asked", NEW_TWICE)]
GUARDS, OPENINGS = [[0], [1]], [[0, 1]]

NO_MENUS = [(None, 0), ("", 0), ({}, 0), (5, 0), (Sour(), 0), ([None], 0), ([*MENU, 5], 3), ([*MENU, MENU[0]], 3),
            ([MENU[0], ("nix", MENU[0][1])], 1), ([("take", (0, "order", ["nix"]))], 0), ([MENU[0], ("take",)], 1),
            ([("take", (1, "order", ["new"]))], 0), ([("take", (True, "order", ["new"]))], 0), ([Sour()], 0),
            ([("take", (None, "order", ["paid", "new"])), ("take", [None, "order", ("new", "paid")])], 1),
            ([(5, MENU[0][1])], 0), ([("take", Sour())], 0), ([("take", (0, "order", ["new", "new"]))], 0)]
NO_LOTS = [None, "", 5, {}, [3], [-1], [1, 0], [0, 0], [True], ["0"], [0, None], [0.0], Sour(), [Sour()], [GREAT], (2, 1)]
BAD_MENUS = [("menu", thing, BadMenu, index) for thing, index in NO_MENUS]
BAD_LOTS = [("lot", thing, BadLot, thing) for thing in NO_LOTS]


def lots_of(many):
    """All lots of so many."""
    return sorted(list(lot) for size in range(many + 1) for lot in itertools.combinations(range(many), size))


def plain_guards(plan, beginning, asked, menu):
    """All least lots that keep, and all that open, by a trial of all lots."""
    every = lots_of(len(menu))
    keep = [lot for lot in every if verdict(guarded(plan, menu, lot), beginning, asked)[0] == "never"]
    opens = [lot for lot in every if [one for one in range(len(menu)) if one not in lot] not in keep]

    def least(lots):
        return [lot for lot in lots if not any(set(less) < set(lot) for less in lots)]

    return least(keep), least(opens)


def random_menu(chance, plan, most):
    """A menu of unlike asks."""
    menu = {}
    for _ in range(chance.randint(0, most)):
        one = chance.choice(plan.all_deeds())
        pair = random_place(chance, plan.kinds(), one[1], False)
        if pair is not None:
            marks = plan.kinds().marks(pair[1])
            ask = (*pair, tuple(sorted(chance.sample(marks, chance.randint(0, len(marks) - 1)))))
            menu[(one[0], ask)] = True
    return list(menu)


def menus_within(chance, kinds_list, many, most=3, rounds=12):
    """So many plans, beginnings, patterns, menus, within the limits whatever is put in."""
    found = []
    while len(found) < many:
        kinds = chance.choice(kinds_list)
        plan = random_plan(chance, kinds, chance.randint(1, 4), asks=1, turns=1, news=2)
        asked = told(random_stand(chance, kinds, 3))
        menu = random_menu(chance, plan, most)
        if None not in [leading_within(guarded(plan, menu, lot), asked, rounds) for lot in lots_of(len(menu))]:
            found.append((plan, random_beginning(chance, kinds, 3), asked, menu))
    return found


class Guarded(Case):

    def test_guarded(self):
        self.assertTrue(guarded(FREE, MENU, []) == FREE)
        more = guarded(FREE, MENU, [0, 1, 2])
        self.assertEqual(more.deed("take")[2], ((0, "order", ("paid",)), (None, "order", ("paid",))))
        self.assertEqual(more.deed("pay")[2], ((0, "order", ("paid",)),))
        self.assertEqual(guarded(FREE, MENU[::-1], [0, 1, 2]).deed("take")[2],
                         ((None, "order", ("paid",)), (0, "order", ("paid",))))
        # Also one that stands there already.
        self.assertEqual(TWICE.deed("take")[2], ((0, "order", ("paid",)),) * 2)
        self.assertTrue(is_less(more, FREE))

    def test_forms(self):
        self.same_in_all_forms(guarded, FREE, MENU, [0, 2])
        self.assertTrue(guarded(plan=FREE, menu=as_lists(MENU), lot=(0, 2)) == guarded(FREE, as_tuples(MENU), [0, 2]))
        menu, lot = as_lists(MENU), [0]
        more = guarded(FREE, menu, lot)
        menu[0][1][2].append("new")
        lot.append(1)
        self.assertEqual(more.deed("take")[2], ((0, "order", ("paid",)),))

    def test_wrong(self):
        self.refuses(guarded, {"plan": FREE, "menu": MENU, "lot": [0]}, [*no_plans(BadPlan), *BAD_MENUS, *BAD_LOTS])
        good = {"plan": FREE, "beginning": BEGINNING, "asked": NEW_TWICE, "menu": MENU}
        self.refuses(guard_verdict, {**good, "lot": [0]}, [*WRONG, *BAD_MENUS, *BAD_LOTS])
        for call in (least_guards, least_openings):
            self.refuses(call, good, [*WRONG, *BAD_MENUS])
        for call in (is_least_guard, guards_fault):
            self.refuses(call, {**good, "thing": None}, [*WRONG, *BAD_MENUS])

    def test_lot_of_an_empty_menu(self):
        lot = [0]
        self.raised(BadLot, lot, guarded, FREE, [], lot)
        self.assertTrue(guarded(FREE, [], []) == FREE)

    def test_verdict(self):
        self.assertEqual(guard_verdict(FREE, BEGINNING, NEW_TWICE, MENU, [0]), ("never", [NEW_TWICE]))
        found = self.same_in_all_forms(guard_verdict, FREE, BEGINNING, NEW_TWICE, MENU, [2])
        self.assertEqual(found[0], "told")
        self.assertEqual(judged(guarded(FREE, MENU, [2]), BEGINNING, NEW_TWICE, found), "told")
        self.new_each_time(guard_verdict, FREE, BEGINNING, NEW_TWICE, MENU, [2])


class Least(Case):

    def test_example(self):
        twice = ([shop()], [("do", "take", [0]), ("do", "take", [0])])
        self.assertEqual(judged(FREE, BEGINNING, NEW_TWICE, ("told", twice)), "told")
        self.assertEqual(least_guards(FREE, BEGINNING, NEW_TWICE, MENU), GUARDS)
        self.assertEqual(least_openings(FREE, BEGINNING, NEW_TWICE, MENU), OPENINGS)
        self.assertIsNone(guards_fault(FREE, BEGINNING, NEW_TWICE, MENU, (GUARDS, OPENINGS)))

    def test_ends(self):
        # The plan keeps it, whatever is put in; not even all of menu does.
        self.assertEqual(least_guards(TWICE, BEGINNING, NEW_TWICE, MENU), [[]])
        self.assertEqual(least_openings(TWICE, BEGINNING, NEW_TWICE, MENU), [])
        self.assertEqual(least_guards(FREE, BEGINNING, NEW_TWICE, MENU[2:]), [])
        self.assertEqual(least_guards(FREE, BEGINNING, [shop(N)], MENU), [])
        self.assertEqual(least_openings(FREE, BEGINNING, [shop(N)], MENU), [[]])
        self.assertEqual(least_guards(FREE, BEGINNING, NEW_TWICE, []), [])
        self.assertEqual(least_openings(FREE, BEGINNING, NEW_TWICE, []), [[]])

    def test_forms(self):
        for call in (least_guards, least_openings):
            self.same_in_all_forms(call, FREE, BEGINNING, NEW_TWICE, MENU)
            self.new_each_time(call, FREE, BEGINNING, NEW_TWICE, MENU)

    def test_is_least_guard(self):
        for thing, wanted in (([0], True), ((1,), True), ([0, 1], False), ([], False), ([2], False), ([True], False),
                              ([1, 0], False), ("0", False), ({0: 1}, False), (0, False), ([0.0], False), ([0, 0], False)):
            self.assertIs(is_least_guard(plan=FREE, beginning=BEGINNING, asked=NEW_TWICE, menu=MENU, thing=thing), wanted)
        self.assertIs(is_least_guard(TWICE, BEGINNING, NEW_TWICE, MENU, []), True)
        for thing in odd_things():
            wanted = isinstance(thing, list) and len(thing) == 1 and type(thing[0]) is int and thing[0] in (0, 1)
            self.assertIs(is_least_guard(FREE, BEGINNING, NEW_TWICE, MENU, thing), wanted)

    def test_against_all_lots(self):
        chance = chance_of(163)
        seen = {}
        for plan, beginning, asked, menu in menus_within(chance, SOME_KINDS, 80):
            guards, openings = plain_guards(plan, beginning, asked, menu)
            self.assertEqual(least_guards(plan, beginning, asked, menu), guards)
            self.assertEqual(least_openings(plan, beginning, asked, menu), openings)
            self.assertEqual(least_meeting(guards), openings)
            self.assertEqual(least_meeting(openings), guards)
            for lot in lots_of(len(menu)):
                found = guard_verdict(plan, beginning, asked, menu, lot)
                self.assertEqual(judged(guarded(plan, menu, lot), beginning, asked, found), found[0])
                self.assertEqual(found[0] == "never", all(set(lot) & set(one) for one in openings))
                self.assertIs(is_least_guard(plan, beginning, asked, menu, lot), lot in guards)
            self.assertIsNone(guards_fault(plan, beginning, asked, menu, as_tuples((guards, openings))))
            seen[len(guards), bool(guards and guards[0])] = True
        self.assertGreater(len(seen), 2)

    def test_limits(self):
        for plan, beginning, asked, menu in menus_within(chance_of(164), BIG_KINDS, 5, 4):
            self.soon(least_guards, plan, beginning, asked, menu)
            self.soon(least_openings, plan, beginning, asked, menu)


class Fault(Case):

    def fault(self, thing):
        return guards_fault(FREE, BEGINNING, NEW_TWICE, MENU, thing)

    def test_right(self):
        for thing in ((GUARDS, OPENINGS), [GUARDS, OPENINGS], as_tuples((GUARDS, OPENINGS)), [((0,), [1]), ([0, 1],)]):
            self.assertIsNone(self.fault(thing))
        self.assertIsNone(guards_fault(TWICE, BEGINNING, NEW_TWICE, MENU, [[[]], []]))
        self.assertIsNone(guards_fault(FREE, BEGINNING, [shop(N)], MENU, [[], [[]]]))

    def test_form(self):
        for thing in (None, "ab", 5, {}, [], [[]], [[], [], []], ([], None), (None, []), ("", []), ({}, []), Sour(),
                      [Sour(), []], (GUARDS, "")):
            self.assertEqual(self.fault(thing), ("form", 0))
        for thing in odd_things():
            found = self.fault(thing)
            good = isinstance(thing, (list, tuple)) and len(thing) == 2 and all(
                isinstance(one, (list, tuple)) for one in thing)
            self.assertEqual(found == ("form", 0), not good)
            self.assertIn(self.fault((thing, OPENINGS))[0], ("form", "guards", "lacks"))
            self.assertIn(self.fault((GUARDS, thing))[0], ("form", "openings", "lacks"))
            self.assertEqual(self.fault((GUARDS[:1] + [thing], [])), ("guards", 1))
            self.assertEqual(self.fault((GUARDS, [thing])), ("openings", 0))

    def test_first_wrong(self):
        for thing, wanted in (
                (([[0], [0]], []), ("guards", 1)), (([[1], [0]], OPENINGS), ("guards", 1)), (([[2]], [5]), ("guards", 0)),
                (([[0], [1], [0, 1]], OPENINGS), ("guards", 2)), (([[True]], OPENINGS), ("guards", 0)),
                ((GUARDS, [[0]]), ("openings", 0)), ((GUARDS, OPENINGS * 2), ("openings", 1)),
                (([[0]], OPENINGS), ("lacks", [0])), ((GUARDS, []), ("lacks", [0, 1])), (([], OPENINGS), ("lacks", [])),
                (([[1]], OPENINGS), ("lacks", [1])), (([], []), ("lacks", []))):
            self.assertEqual(self.fault(thing), wanted)
            self.assertEqual(self.fault(as_tuples(thing)), wanted)
        self.new_each_time(guards_fault, FREE, BEGINNING, NEW_TWICE, MENU, (GUARDS, []))
