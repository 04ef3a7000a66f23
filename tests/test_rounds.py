"""[14.1] to [14.6]: rounds and the least list."""

from anywithin.before import before_all
from anywithin.beginnings import begins
from anywithin.errors import BadAsked, BadBeginning, BadMany, BadPlan, BadStand
from anywithin.least import is_above, least_ones
from anywithin.plans import Plan
from anywithin.plays import deeds_of, is_bringing
from anywithin.refusals import BadOtherAsked
from anywithin.rounds import (
    fewest_deeds, least_leading, leads_too, round_of, rounds, rounds_fault, same_leading, shortest_play, soonest,
)
from anywithin.sprouts import sprouted
from anywithin.walls import is_barrier
from tests.helpers import (
    GREAT, Case, Sour, as_lists, as_tuples, chance_of, no_beginnings, no_plans, no_stands, odd_things, plain_lies,
    random_beginning, random_stand, shuffled, size, told,
)
from tests.test_before import N, P, SHOPS, shop, shuffled_stands
from tests.test_walls import ASKED, OPEN, ORDER, PAY, PLAN, SEND, shut
from tests.trials import BIG_KINDS, SOME_KINDS, leading_within, plain_depths, random_plan, seeds_for

# As [14.6] has it.
LAXER = Plan(SHOPS, [PAY, shut("new", "sent"), OPEN, ORDER, SEND])
ROUNDS = [
    [(shop("shut", P),)],
    [(shop("shut", N),), (shop("shut", P),)],
    [(shop("open", N),), (shop("shut", N),), (shop("shut", P),)],
    [(shop("open"),), (shop("shut", N),), (shop("shut", P),)],
    [()],
]
LEAST = ROUNDS[1]


def plain_rounds(plan, asked):
    """All rounds by the words of [14.1]: least ones of the last one and of all least before each of it."""
    found = [[told(asked)]]
    while True:
        befores = [before for heap in found[-1] for one in before_all(plan, heap).values() for before in one]
        then = least_ones(plan.kinds(), [*found[-1], *befores])
        if then == found[-1]:
            return found
        found.append(then)


def plans_within(chance, many, asks=2):
    """So many plans and patterns within the limits, with their rounds."""
    found = []
    while len(found) < many:
        kinds = chance.choice(SOME_KINDS)
        plan = random_plan(chance, kinds, chance.randint(1, 4), asks=asks, turns=2, news=2, most=3)
        asked = told(random_stand(chance, kinds, 3))
        lists = leading_within(plan, asked)
        if lists is not None:
            found.append((kinds, plan, asked, lists))
    return found


class Rounds(Case):

    def test_example(self):
        self.assertEqual(rounds(LAXER, ASKED), ROUNDS)
        self.assertEqual(fewest_deeds(LAXER, [], ASKED), 4)
        self.assertEqual(soonest(LAXER, ASKED, [shop("shut", N)]), 1)
        self.assertEqual(rounds(PLAN, ASKED), ROUNDS[:2])
        self.assertEqual(least_leading(PLAN, ASKED), LEAST)
        self.assertIs(is_barrier(PLAN, [], ASKED, LEAST), True)

    def test_round_of(self):
        for many in range(12):
            self.assertEqual(round_of(LAXER, ASKED, many), ROUNDS[min(many, 4)])
            self.assertEqual(round_of(PLAN, ASKED, many), ROUNDS[min(many, 1)])
        self.assertEqual(round_of(plan=LAXER, asked=ASKED, many=GREAT), [()])
        self.assertEqual(rounds(LAXER, []), [[()]])
        self.assertEqual(rounds(Plan(SHOPS, []), ASKED), ROUNDS[:1])

    def test_forms(self):
        chance = chance_of(141)
        asked = [shop("shut", P, N), shop("open", N)]
        for call, rest in ((rounds, ()), (least_leading, ()), (round_of, (2,))):
            wanted = self.same_in_all_forms(call, PLAN, asked, *rest)
            self.assertEqual(call(PLAN, shuffled(chance, asked), *rest), wanted)
            self.new_each_time(call, PLAN, asked, *rest)

    def test_wrong(self):
        wrong = [*no_plans(BadPlan), *no_stands(BadAsked, "asked", ASKED)]
        for call in (rounds, least_leading):
            self.refuses(call, {"plan": LAXER, "asked": ASKED}, wrong)
        many = [("many", thing, BadMany, thing) for thing in (-1, True, None, "1", 1.0, [], Sour(), -GREAT)]
        self.refuses(round_of, {"plan": LAXER, "asked": ASKED, "many": 2}, [*wrong, *many])

    def test_as_the_words_say(self):
        for kinds, plan, asked, lists in plans_within(chance_of(142), 120):
            self.assertEqual(rounds(plan, asked), plain_rounds(plan, asked))
            self.assertEqual(lists, rounds(plan, asked))
            self.assertEqual(least_leading(plan, asked), lists[-1])
            for one, then in zip(lists, lists[1:]):
                self.assertTrue(all(is_above(kinds, then, heap) for heap in one))

    def test_against_all_small_stands(self):
        """Going forward by deeds and deletions nothing comes that the rounds do not tell, nor sooner."""
        chance = chance_of(143)
        told_at_all = 0
        for kinds, plan, asked, lists in plans_within(chance, 60):
            for _ in range(2):
                stand = told(random_stand(chance, kinds, 3))
                depths = plain_depths(plan, stand, 5)
                ways = [depth for heap, depth in depths.items() if plain_lies(asked, heap)]
                found = soonest(plan, asked, stand)
                if ways:
                    told_at_all += 1
                    self.assertIsNotNone(found)
                    self.assertLessEqual(found, min(ways))
                    if not any(size(heap) > 4 for heap in depths):
                        self.assertEqual(found, min(ways))
                elif not any(size(heap) > 4 for heap in depths):
                    self.assertIsNone(found)
                numbers = [number for number, heaps in enumerate(lists) if is_above(kinds, heaps, stand)]
                self.assertEqual(found, min(numbers) if numbers else None)
        self.assertGreater(told_at_all, 20)

    def test_limits(self):
        chance = chance_of(144)
        tried = 0
        while tried < 25:
            kinds = chance.choice(BIG_KINDS)
            plan = random_plan(chance, kinds, 5, asks=2, turns=2, pours=1, moves=2, news=2, most=3)
            asked = told(random_stand(chance, kinds, 4))
            lists = leading_within(plan, asked)
            if lists is not None:
                self.assertEqual(self.soon(rounds, plan, asked), lists)
                self.assertIsNone(self.soon(rounds_fault, plan, asked, lists))
                tried += len(lists) > 1

    def test_many_alike(self):
        asked = [("shop", "shut", [("order", "paid", [])] * 4), ("shop", "shut", [("order", "paid", [])])]
        found = self.soon(rounds, PLAN, asked)
        self.assertEqual(found, plain_rounds(PLAN, asked))
        self.assertIsNone(self.soon(fewest_deeds, PLAN, [], asked))


class HowSoon(Case):

    def test_soonest(self):
        for stand, wanted in (([], 4), ([shop("open")], 3), ([shop("open", N)], 2), ([shop("open", P)], 3),
                              ([shop("shut", N)], 1), (ASKED, 0), ([shop("shut")], 4), ([shop("shut", S2), *ASKED], 0)):
            self.assertEqual(soonest(LAXER, ASKED, stand), wanted)
        self.assertIsNone(soonest(PLAN, ASKED, [shop("open", N, P), shop("shut", S2)]))
        self.assertEqual(soonest(LAXER, [], []), 0)
        self.same_in_all_forms(soonest, LAXER, ASKED, [shop("shut", N)])

    def test_fewest(self):
        self.assertIsNone(fewest_deeds(PLAN, [], ASKED))
        self.assertIsNone(shortest_play(PLAN, [], ASKED))
        self.assertEqual(fewest_deeds(LAXER, [("shop", "open", [], True)], ASKED), 3)
        self.assertEqual(fewest_deeds(LAXER, [("shop", "shut", [("order", "paid", [], False)], True)], ASKED), 0)
        self.assertEqual(shortest_play(LAXER, [("shop", "shut", [("order", "paid", [], False)], True)], ASKED),
                         ((shop("shut", P),), []))
        self.assertEqual(shortest_play(LAXER, [], []), ((), []))
        play = self.same_in_all_forms(shortest_play, LAXER, [], ASKED)
        self.assertEqual(len(play[1]), 4)
        self.new_each_time(shortest_play, LAXER, [], ASKED)

    def test_wrong(self):
        wrong = [*no_plans(BadPlan), *no_stands(BadAsked, "asked", ASKED)]
        self.refuses(soonest, {"plan": LAXER, "asked": ASKED, "stand": [shop("open")]},
                     [*wrong, *no_stands(BadStand, "stand", [shop("open")])])
        for call in (fewest_deeds, shortest_play):
            self.refuses(call, {"plan": LAXER, "beginning": [], "asked": ASKED},
                         [*wrong, *no_beginnings(BadBeginning)])

    def test_shortest_at_random(self):
        chance = chance_of(145)
        lengths = {}
        for kinds, plan, asked, lists in plans_within(chance, 120):
            beginning = random_beginning(chance, kinds, 3)
            many = fewest_deeds(plan, beginning, asked)
            play = shortest_play(plan, beginning, asked)
            numbers = [number for number, heaps in enumerate(lists)
                       if any(begins(kinds, beginning, heap) for heap in heaps)]
            self.assertEqual(many, min(numbers) if numbers else None)
            lengths[many] = lengths.get(many, 0) + 1
            if many is None:
                self.assertIsNone(play)
                self.assertIs(is_barrier(plan, beginning, asked, lists[-1]), True)
            else:
                self.assertIs(is_bringing(plan, beginning, asked, play), True)
                self.assertEqual(len(deeds_of(plan, beginning, play)), many)
                # No record of a kind that lasts is ever deleted, and nothing is deleted where nothing asks.
            stand = sprouted(kinds, beginning, 2)
            soon = soonest(plan, asked, stand)
            self.assertTrue(soon is None or many is not None and many <= soon)
            self.assertEqual(fewest_deeds(plan, seeds_for(stand), asked), soon)
        self.assertGreater(len(lengths), 3)

    def test_without_asks_nothing_is_deleted(self):
        chance = chance_of(146)
        for kinds, plan, asked, _ in plans_within(chance, 60, asks=0):
            play = shortest_play(plan, random_beginning(chance, kinds, 3), asked)
            self.assertTrue(play is None or all(step[0] == "do" for step in play[1]))


S2 = ("order", "sent", ())


class Judged(Case):

    def test_right(self):
        chance = chance_of(147)
        for thing in (ROUNDS, as_lists(ROUNDS), as_tuples(ROUNDS), [heaps[::-1] for heaps in ROUNDS],
                      [shuffled_stands(chance, heaps) for heaps in ROUNDS]):
            self.assertIsNone(rounds_fault(plan=LAXER, asked=ASKED, thing=thing))
        self.assertIsNone(rounds_fault(PLAN, ASKED, ROUNDS[:2]))

    def test_form(self):
        for thing, index in ((None, 0), ("", 0), ({}, 0), (5, 0), ([], 0), ((), 0), (Sour(), 0), ([None], 0),
                             ([*ROUNDS, 5], 5), ([[], [5]], 1), ([ROUNDS[0], [[shop("nix")]], None], 1), ([""], 0),
                             ([{}], 0), (ROUNDS[1], 0), ([[Sour()]], 0)):
            self.assertEqual(rounds_fault(LAXER, ASKED, thing), ("form", index))
        for thing in odd_things():
            found = rounds_fault(LAXER, ASKED, thing)
            self.assertIn(found[0], ("form", "above", "below"))
            if not isinstance(thing, (list, tuple)) or not thing:
                self.assertEqual(found, ("form", 0))

    def test_above_below_alike(self):
        def fault(*lists):
            return rounds_fault(LAXER, ASKED, [*lists])

        self.assertEqual(fault([]), ("below", 0, (shop("shut", P),)))
        self.assertEqual(fault([[]]), ("above", 0, ()))
        self.assertEqual(fault([[shop("shut", N)], ASKED]), ("above", 0, (shop("shut", N),)))
        self.assertEqual(fault([ASKED, [shop("shut", N)], [shop("open")]]), ("above", 0, (shop("open"),)))
        self.assertEqual(fault([[shop("shut", P, P)]]), ("below", 0, (shop("shut", P),)))
        self.assertEqual(fault([ASKED, ASKED]), ("alike", 0))
        self.assertEqual(fault([ASKED, [shop("shut", P, N)]]), ("alike", 0))
        self.assertEqual(fault(ROUNDS[0], ROUNDS[0]), ("below", 1, (shop("shut", N),)))
        self.assertEqual(fault(ROUNDS[0], ROUNDS[2]), ("above", 1, (shop("open", N),)))
        self.assertEqual(fault(ROUNDS[0], [*ROUNDS[1], *ASKED_TWICE], ROUNDS[0]), ("alike", 1))
        self.assertEqual(fault(*ROUNDS[:2]), ("more", 2))
        self.assertEqual(fault(*ROUNDS, [()]), ("more", 6))
        self.assertEqual(fault(*ROUNDS, [(), ()]), ("alike", 5))
        self.assertEqual(fault(*ROUNDS, [()], ROUNDS[0]), ("below", 6, ()))
        self.assertEqual(fault(ROUNDS[1], [5]), ("form", 1))
        self.assertEqual(rounds_fault(PLAN, ASKED, ROUNDS), ("above", 2, (shop("open", N),)))
        self.assertEqual(rounds_fault(PLAN, ASKED, [*ROUNDS[:2], ROUNDS[1]]), ("more", 3))

    def test_wrong(self):
        wrong = [*no_plans(BadPlan), *no_stands(BadAsked, "asked", ASKED)]
        self.refuses(rounds_fault, {"plan": LAXER, "asked": ASKED, "thing": ROUNDS}, wrong)
        self.new_each_time(rounds_fault, LAXER, ASKED, [[]])

    def test_at_random(self):
        chance = chance_of(148)
        words = {}
        for kinds, plan, asked, lists in plans_within(chance, 120):
            self.assertIsNone(rounds_fault(plan, asked, [shuffled_stands(chance, heaps) for heaps in lists]))
            thing = [list(heaps) for heaps in lists]
            which = chance.randrange(len(thing))
            if thing[which] and chance.random() < 0.5:
                del thing[which][chance.randrange(len(thing[which]))]
            if chance.random() < 0.5:
                thing[which].append(told(random_stand(chance, kinds, 3)))
            if chance.random() < 0.3:
                thing.append(list(lists[-1]))
            found = rounds_fault(plan, asked, thing)
            self.assertEqual(found, self.plain_fault(kinds, lists, thing))
            words[found and found[0]] = True
        self.assertEqual(set(words), {None, "above", "below", "alike", "more"})

    def plain_fault(self, kinds, lists, thing):
        for index, heaps in enumerate(thing):
            right = lists[min(index, len(lists) - 1)]
            for heap in sorted(heaps):
                if not is_above(kinds, right, heap):
                    return ("above", index, heap)
            for heap in right:
                if not is_above(kinds, heaps, heap):
                    return ("below", index, heap)
            for at, heap in enumerate(heaps):
                if any(plain_lies(heap, other) for other in heaps[:at] + heaps[at + 1:]):
                    return ("alike", index)
        return None if len(thing) == len(lists) else ("more", len(thing))


ASKED_TWICE = [ASKED]


class FromOneToAnother(Case):

    def test_same(self):
        self.assertIs(same_leading(PLAN, ASKED, [shop("shut", P)]), True)
        self.assertIs(same_leading(PLAN, ASKED, [shop("shut", N)]), False)
        self.assertIs(leads_too(PLAN, ASKED, [shop("shut", N)]), True)
        self.assertIs(leads_too(PLAN, [shop("shut", N)], ASKED), False)
        self.assertIs(leads_too(PLAN, ASKED, [shop("shut", P), shop("open")]), True)
        self.assertIs(leads_too(LAXER, ASKED, []), True)
        self.assertIs(leads_too(PLAN, ASKED, []), False)
        self.assertIs(same_leading(LAXER, ASKED, []), True)
        for call in (same_leading, leads_too):
            self.same_in_all_forms(call, PLAN, ASKED, [shop("shut", N)])
            wrong = [*no_plans(BadPlan), *no_stands(BadAsked, "asked", ASKED),
                     *no_stands(BadOtherAsked, "other_asked", ASKED)]
            self.refuses(call, {"plan": PLAN, "asked": ASKED, "other_asked": ASKED}, wrong)

    def test_at_random(self):
        chance = chance_of(149)
        for kinds, plan, asked, lists in plans_within(chance, 60):
            other = told(random_stand(chance, kinds, 3))
            theirs = leading_within(plan, other)
            if theirs is None:
                continue
            self.assertEqual(same_leading(plan, asked, other), lists[-1] == theirs[-1])
            self.assertEqual(leads_too(plan, asked, other),
                             all(is_above(kinds, lists[-1], heap) for heap in theirs[-1]))
            self.assertTrue(not plain_lies(asked, other) or leads_too(plan, asked, other))
