"""[17.1], [17.3] to [17.6]: lots of deeds, and their prices."""

import itertools

from anywithin.anyof import any_verdict
from anywithin.errors import BadAsked, BadBeginning, BadNameList, BadPlan
from anywithin.lots import (
    barring_lots, bringing_lots, idle_deeds, is_barring_lot, is_bringing_lot, lot_verdict, lots_fault, needed_deeds,
)
from anywithin.meeting import least_meeting
from anywithin.plans import Plan, without_deeds
from anywithin.plays import deeds_of
from anywithin.prices import barred_by, cheapest_bar, cheapest_way
from anywithin.refusals import BadLot, BadPrices
from anywithin.verdicts import judged, verdict
from tests.helpers import (
    GREAT, Case, Sour, as_tuples, chance_of, no_beginnings, no_plans, no_stands, odd_things, random_beginning,
    random_stand, told,
)
from tests.test_anyof import BEGINNING, N, NEW_TWICE, P, PAY, PLAN, SHOPS, TAKE, shop
from tests.trials import BIG_KINDS, SOME_KINDS, leading_within, random_plan

GIFT = ("gift", [("shop", None, {"open": "open"})], [], [], [], [], [("order", "paid", ("who", 0))])
THREE = Plan(SHOPS, [TAKE, PAY, GIFT])
ASKED = [shop(P)]
BRINGING, BARRING = [["gift"], ["pay", "take"]], [["gift", "pay"], ["gift", "take"]]
PRICES = {"gift": 5, "pay": 1, "take": 2}
WRONG = [*no_plans(BadPlan), *no_beginnings(BadBeginning), *no_stands(BadAsked, "asked", ASKED)]
GOOD = {"plan": THREE, "beginning": BEGINNING, "asked": ASKED}
ALL = [bringing_lots, barring_lots, needed_deeds, idle_deeds]
NO_LOTS = [None, "", 5, {}, ["nix"], ["take", "pay"], ["pay", "pay"], [0], [None], "pay", Sour(), [Sour()], [["pay"]],
           ["pay", "nix"], ["gift", "pay", "take", "z"], {"pay": 1}, [b"pay"]]


def names_of(plan):
    return [one[0] for one in plan.all_deeds()]


def lots_of(names):
    return sorted(list(lot) for size in range(len(names) + 1) for lot in itertools.combinations(names, size))


def plain_lots(plan, beginning, asked):
    """All least lots that bring, and all that bar, by a trial of all lots."""
    names = names_of(plan)
    every = lots_of(names)
    bring = [lot for lot in every
             if verdict(without_deeds(plan, [one for one in names if one not in lot]), beginning, asked)[0] == "told"]
    bar = [lot for lot in every if [one for one in names if one not in lot] not in bring]

    def least(lots):
        return [lot for lot in lots if not any(set(less) < set(lot) for less in lots)]

    return least(bring), least(bar)


def lots_within(chance, kinds_list, many, deeds, records=3):
    """So many plans, beginnings, patterns within the limits for each lot of the plan's deeds."""
    found = []
    while len(found) < many:
        kinds = chance.choice(kinds_list)
        plan = random_plan(chance, kinds, chance.randint(min(3, deeds), deeds), asks=1, turns=1, news=2)
        asked = told(random_stand(chance, kinds, records))
        if None not in [leading_within(without_deeds(plan, lot), asked) for lot in lots_of(names_of(plan))]:
            found.append((plan, random_beginning(chance, kinds, 2), asked))
    return found


def any_first(plan, beginning, asked):
    return any_verdict(plan, beginning, [asked, NEW_TWICE])


class Lots(Case):

    def test_example(self):
        self.assertEqual(bringing_lots(PLAN, BEGINNING, ASKED), [["pay", "take"]])
        self.assertEqual(barring_lots(PLAN, BEGINNING, ASKED), [["pay"], ["take"]])
        self.assertEqual(needed_deeds(PLAN, BEGINNING, ASKED), ["pay", "take"])
        self.assertEqual(idle_deeds(PLAN, BEGINNING, ASKED), [])
        self.assertEqual(bringing_lots(THREE, BEGINNING, ASKED), BRINGING)
        self.assertEqual(barring_lots(THREE, BEGINNING, ASKED), BARRING)
        self.assertEqual(needed_deeds(THREE, BEGINNING, ASKED), [])
        self.assertEqual(cheapest_bar(THREE, BEGINNING, ASKED, PRICES), (6, ["gift", "pay"]))
        self.assertEqual(cheapest_way(THREE, BEGINNING, ASKED, PRICES), (3, ["pay", "take"]))
        self.assertEqual(barred_by(THREE, BEGINNING, ASKED, ["take", "gift", "pay"]), 2)

    def test_ends(self):
        for call, at_once, never in zip(ALL, ([[]], [], [], ["gift", "pay", "take"]),
                                        ([], [[]], ["pay", "take"], ["pay", "take"])):
            self.assertEqual(call(THREE, BEGINNING, [shop()]), at_once)
            self.assertEqual(call(THREE, BEGINNING, []), at_once)
            self.assertEqual(call(PLAN, BEGINNING, NEW_TWICE), never)
        self.assertEqual(idle_deeds(THREE, BEGINNING, [shop(N)]), ["gift", "pay"])
        self.assertEqual(needed_deeds(THREE, BEGINNING, [shop(N)]), ["take"])
        self.assertEqual(bringing_lots(Plan(SHOPS, []), BEGINNING, ASKED), [])
        self.assertEqual(bringing_lots(Plan(SHOPS, []), BEGINNING, []), [[]])

    def test_forms(self):
        for call in ALL:
            for plan in (PLAN, THREE):
                self.same_in_all_forms(call, plan, BEGINNING, ASKED)
                self.new_each_time(call, plan, BEGINNING, ASKED)
            self.refuses(call, GOOD, WRONG)

    def test_verdict(self):
        self.assertEqual(lot_verdict(THREE, BEGINNING, ASKED, ["take"]), ("never", [(shop(N),), (shop(P),)][1:]))
        for lot in (["gift"], ["pay", "take"], ("gift", "take"), ["gift", "pay", "take"]):
            word, play = lot_verdict(plan=THREE, beginning=BEGINNING, asked=ASKED, lot=lot)
            self.assertEqual(word, "told")
            self.assertTrue(set(deeds_of(THREE, BEGINNING, play)) <= set(lot))
        self.assertEqual(lot_verdict(THREE, BEGINNING, [shop()], [])[0], "told")
        self.same_in_all_forms(lot_verdict, THREE, BEGINNING, ASKED, ["pay", "take"])
        self.new_each_time(lot_verdict, THREE, BEGINNING, ASKED, ["take"])
        self.refuses(lot_verdict, {**GOOD, "lot": ["gift"]}, [*WRONG, *[("lot", one, BadLot, one) for one in NO_LOTS]])

    def test_is_lot(self):
        for call, right in ((is_bringing_lot, BRINGING), (is_barring_lot, BARRING)):
            for lot in lots_of(["gift", "pay", "take"]):
                for form in (lot, tuple(lot)):
                    self.assertIs(call(plan=THREE, beginning=BEGINNING, asked=ASKED, thing=form), lot in right)
            for thing in [*NO_LOTS, ["take", "gift"], ["pay", "gift"], *odd_things()]:
                self.assertIs(call(THREE, BEGINNING, ASKED, thing), False)
            self.refuses(call, {**GOOD, "thing": None}, WRONG)
        self.assertIs(is_bringing_lot(THREE, BEGINNING, [], []), True)
        self.assertIs(is_barring_lot(PLAN, BEGINNING, NEW_TWICE, ()), True)

    def test_against_all_lots(self):
        chance = chance_of(172)
        sizes = {}
        for plan, beginning, asked in lots_within(chance, SOME_KINDS, 40, 4):
            bringing, barring = plain_lots(plan, beginning, asked)
            self.assertEqual(bringing_lots(plan, beginning, asked), bringing)
            self.assertEqual(barring_lots(plan, beginning, asked), barring)
            self.assertEqual(least_meeting(bringing), barring)
            self.assertEqual(least_meeting(barring), bringing)
            names = names_of(plan)
            needed = [one for one in names if verdict(without_deeds(plan, [one]), beginning, asked)[0] == "never"]
            self.assertEqual(needed_deeds(plan, beginning, asked), needed)
            idle = idle_deeds(plan, beginning, asked)
            self.assertEqual(idle, [one for one in names if not any(one in lot for lot in bringing)])
            self.assertEqual(idle, [one for one in names if not any(one in lot for lot in barring)])
            self.assertEqual(verdict(without_deeds(plan, idle), beginning, asked)[0],
                             verdict(plan, beginning, asked)[0])
            self.assertIsNone(lots_fault(plan, beginning, asked, as_tuples([bringing, barring])))
            for lot in lots_of(names):
                found = lot_verdict(plan, beginning, asked, lot)
                less = without_deeds(plan, [one for one in names if one not in lot])
                self.assertEqual(judged(less, beginning, asked, found), found[0])
                self.assertEqual(found[0] == "told", all(set(lot) & set(one) for one in barring))
            order = chance.sample(names, chance.randint(0, len(names)))
            bars = [many for many in range(len(order) + 1)
                    if verdict(without_deeds(plan, order[:many]), beginning, asked)[0] == "never"]
            self.assertEqual(barred_by(plan, beginning, asked, order), bars[0] if bars else None)
            prices = {one: chance.randrange(3) for one in names}
            for call, lots in ((cheapest_bar, barring), (cheapest_way, bringing)):
                priced = sorted((sum(prices[one] for one in lot), lot) for lot in lots)
                self.assertEqual(call(plan, beginning, asked, prices), priced[0] if priced else None)
            sizes[len(bringing), len(barring)] = True
        self.assertGreater(len(sizes), 5)

    def test_asked_again_and_again(self):
        """What is told does not hang on what was asked of the plan ahead."""
        plan = Plan(SHOPS, THREE.all_deeds())
        questions = [(BEGINNING, ASKED), ([], ASKED), (BEGINNING, NEW_TWICE), (BEGINNING, [shop(N)]),
                     ([("shop", "open", [("order", "new", [], False)], False)], [shop(P)])]
        for call in [*ALL, verdict, any_first]:
            wanted = [call(Plan(SHOPS, THREE.all_deeds()), *question) for question in questions]
            for order in ([0, 1, 2, 3, 4], [4, 3, 2, 1, 0], [2, 2, 0, 4, 1]):
                self.assertEqual([call(plan, *questions[index]) for index in order], [wanted[index] for index in order])

    def test_limits(self):
        for plan, beginning, asked in lots_within(chance_of(173), BIG_KINDS, 4, 6, 4):
            for call in ALL:
                self.soon(call, plan, beginning, asked)
            pair = (bringing_lots(plan, beginning, asked), barring_lots(plan, beginning, asked))
            self.assertIsNone(self.soon(lots_fault, plan, beginning, asked, pair))


class Fault(Case):

    def fault(self, thing):
        return lots_fault(THREE, BEGINNING, ASKED, thing)

    def test_right(self):
        for thing in ((BRINGING, BARRING), [BRINGING, BARRING], as_tuples((BRINGING, BARRING))):
            self.assertIsNone(self.fault(thing))
            self.assertIsNone(lots_fault(plan=THREE, beginning=BEGINNING, asked=ASKED, thing=thing))
        self.assertIsNone(lots_fault(THREE, BEGINNING, [], ([[]], [])))
        self.assertIsNone(lots_fault(PLAN, BEGINNING, NEW_TWICE, [[], [()]]))

    def test_form(self):
        for thing in (None, "ab", 5, {}, [], [[]], [[], [], []], ([], None), (None, []), ("", []), ([], {}), Sour()):
            self.assertEqual(self.fault(thing), ("form", 0))
        for thing in odd_things():
            good = isinstance(thing, (list, tuple)) and len(thing) == 2 and all(
                isinstance(one, (list, tuple)) for one in thing)
            self.assertEqual(self.fault(thing) == ("form", 0), not good)
            self.assertEqual(self.fault((BRINGING[:1] + [thing], [])), ("bringing", 1))
            self.assertEqual(self.fault((BRINGING, [thing])), ("barring", 0))

    def test_first_wrong(self):
        for thing, wanted in (
                ((BRINGING[::-1], BARRING), ("bringing", 1)), ((BRINGING[:1] * 2, []), ("bringing", 1)),
                (([["pay"]], [5]), ("bringing", 0)), ((BRINGING + [["gift", "pay"]], BARRING), ("bringing", 2)),
                (([["take", "pay"]], BARRING), ("bringing", 0)), ((BRINGING, BARRING[::-1]), ("barring", 1)),
                ((BRINGING, [["gift"]]), ("barring", 0)), ((BRINGING, BARRING[:1]), ("lacks", ["gift", "take"])),
                ((BRINGING, []), ("lacks", ["gift", "pay"])), ((BRINGING[1:], BARRING), ("lacks", ["pay"])),
                (([], BARRING), ("lacks", []))):
            self.assertEqual(self.fault(thing), wanted)
            self.assertEqual(self.fault(as_tuples(thing)), wanted)
        self.new_each_time(lots_fault, THREE, BEGINNING, ASKED, (BRINGING, []))
        self.refuses(lots_fault, {**GOOD, "thing": None}, WRONG)

    def test_no_other_pair(self):
        """No other pair of lists of lots is without fault."""
        every = lots_of(["pay", "take"])
        lists = [list(one) for size in range(4) for one in itertools.permutations(every, size)]
        for mine in lists:
            for theirs in lists:
                found = lots_fault(PLAN, BEGINNING, ASKED, (mine, theirs))
                self.assertEqual(found is None, (mine, theirs) == ([["pay", "take"]], [["pay"], ["take"]]))


class Prices(Case):

    def test_least_lot_of_these(self):
        for call, lots in ((cheapest_bar, BARRING), (cheapest_way, BRINGING)):
            self.assertEqual(call(THREE, BEGINNING, ASKED, {"gift": 0, "pay": 0, "take": 0}), (0, lots[0]))
            self.assertEqual(call(plan=THREE, beginning=BEGINNING, asked=ASKED, prices={"take": 1, "pay": 1, "gift": 2}),
                             (3, lots[0]) if call is cheapest_bar else (2, lots[0]))
        self.assertEqual(cheapest_way(THREE, BEGINNING, ASKED, {"gift": GREAT, "pay": 1, "take": 0}),
                         (1, ["pay", "take"]))
        self.assertIsNone(cheapest_bar(THREE, BEGINNING, [], PRICES))
        self.assertEqual(cheapest_way(THREE, BEGINNING, [], PRICES), (0, []))
        self.assertIsNone(cheapest_way(PLAN, BEGINNING, NEW_TWICE, {"pay": 1, "take": 1}))
        self.assertEqual(cheapest_bar(PLAN, BEGINNING, NEW_TWICE, {"pay": 1, "take": 1}), (0, []))
        self.assertEqual(cheapest_bar(Plan(SHOPS, []), BEGINNING, ASKED, {}), (0, []))

    def test_wrong(self):
        wrong = [("prices", thing, BadPrices, thing) for thing in (
            None, 5, [], "x", {}, {"gift": 1, "pay": 1}, {**PRICES, "nix": 1}, {**PRICES, "pay": -1},
            {**PRICES, "pay": True}, {**PRICES, "pay": 1.0}, {**PRICES, "pay": None}, [("gift", 1)], Sour(),
            {"gift": 1, "pay": 1, "nix": 1}, {"gift": 1, "pay": 1, 5: 1}, {"gift": 1, "pay": 1, Sour(): 1},
            {**PRICES, "take": Sour()}, {"gift": 1, "pay": 1, ("take",): 1}, {"gift": 1, "pay": 1, None: 1})]
        for call in (cheapest_bar, cheapest_way):
            self.refuses(call, {**GOOD, "prices": PRICES}, [*WRONG, *wrong])
            self.same_in_all_forms(call, THREE, BEGINNING, ASKED, PRICES)
            self.new_each_time(call, THREE, BEGINNING, ASKED, PRICES)

    def test_barred_by(self):
        for names, wanted in ((["take", "gift", "pay"], 2), (["take", "pay", "gift"], 3), (["take", "pay"], None),
                              ([], None), (("gift",), None), (("gift", "pay"), 2)):
            self.assertEqual(barred_by(plan=THREE, beginning=BEGINNING, asked=ASKED, names=names), wanted)
        self.assertEqual(barred_by(PLAN, BEGINNING, NEW_TWICE, []), 0)
        self.assertEqual(barred_by(PLAN, BEGINNING, NEW_TWICE, ["pay"]), 0)
        self.assertIsNone(barred_by(PLAN, BEGINNING, [], ["pay", "take"]))
        self.same_in_all_forms(barred_by, THREE, BEGINNING, ASKED, ["take", "gift"])
        wrong = [("names", thing, BadNameList, index) for thing, index in (
            (None, 0), ("pay", 0), ({}, 0), (5, 0), (Sour(), 0), (["pay", "nix"], 1), (["pay", "take", "pay"], 2),
            ([None], 0), (["gift", Sour()], 1), ([["pay"]], 0), ({"pay": 1}, 0))]
        self.refuses(barred_by, {**GOOD, "names": ["take", "gift", "pay"]}, [*WRONG, *wrong])
