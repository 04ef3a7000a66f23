"""[16.1], [16.2], [16.3], [16.6]: asks that are needed."""

from anywithin.asks import ask_verdict, asks_of, needed_asks, without_idle
from anywithin.errors import BadAsked, BadBeginning, BadIndex, BadName, BadPlan
from anywithin.guards import guarded
from anywithin.plans import Plan, is_less, without_ask
from anywithin.plays import is_bringing
from anywithin.refusals import NotKept
from anywithin.verdicts import judged, verdict
from tests.helpers import (
    GREAT, Case, Sour, as_lists, as_tuples, chance_of, no_beginnings, no_plans, no_stands, random_beginning,
    random_stand, told,
)
from tests.test_anyof import BEGINNING, N, NEW_TWICE, P, PAY, PLAN, SHOPS, TAKE, shop
from tests.trials import BIG_KINDS, SOME_KINDS, leading_within, random_plan

FREE = Plan(SHOPS, [(*TAKE[:2], [], *TAKE[3:]), PAY])
MENU = [("take", (0, "order", ["paid"])), ("take", (None, "order", ["paid"])), ("pay", (0, "order", ["paid"]))]
TWICE = guarded(guarded(FREE, MENU, [0]), MENU, [0])
WRONG = [*no_plans(BadPlan), *no_beginnings(BadBeginning), *no_stands(BadAsked, "asked", NEW_TWICE)]


def plain_needed(plan, beginning, asked):
    return [(name, index) for name, index in asks_of(plan)
            if verdict(without_ask(plan, name, index), beginning, asked)[0] == "told"]


def without_all(plan):
    return Plan(plan.kinds(), [(*one[:2], [], *one[3:]) for one in plan.all_deeds()])


def kept_within(chance, kinds_list, many, hangs=False):
    """So many plans, beginnings, patterns that the plan keeps, within the limits without any of its asks, too.

    With hangs they are kept by the asks alone.
    """
    found = []
    while len(found) < many:
        kinds = chance.choice(kinds_list)
        plan = random_plan(chance, kinds, chance.randint(1, 5), asks=2, turns=1, news=2)
        asked = told(random_stand(chance, kinds, 3))
        beginning = random_beginning(chance, kinds, 3)
        less = [without_ask(plan, name, index) for name, index in asks_of(plan)]
        if None in [leading_within(one, asked) for one in [plan, *less]]:
            continue
        if hangs and verdict(without_all(plan), beginning, asked)[0] == "never":
            continue
        if asks_of(plan) and verdict(plan, beginning, asked)[0] == "never":
            found.append((plan, beginning, asked))
    return found


class AsksOf(Case):

    def test_asks_of(self):
        self.assertEqual(asks_of(PLAN), [("take", 0)])
        self.assertEqual(asks_of(FREE), [])
        self.assertEqual(asks_of(guarded(FREE, MENU, [0, 1, 2])), [("pay", 0), ("take", 0), ("take", 1)])
        self.assertEqual(asks_of(plan=Plan(SHOPS, [])), [])
        self.assertIs(type(asks_of(PLAN)[0]), tuple)
        self.new_each_time(asks_of, PLAN)
        self.refuses(asks_of, {"plan": PLAN}, no_plans(BadPlan))


class Needed(Case):

    def test_example(self):
        self.assertEqual(needed_asks(TWICE, BEGINNING, NEW_TWICE), [])
        self.assertEqual(needed_asks(PLAN, BEGINNING, NEW_TWICE), [("take", 0)])
        left = without_idle(TWICE, BEGINNING, NEW_TWICE)
        self.assertEqual(asks_of(left), [("take", 0)])
        self.assertEqual(needed_asks(left, BEGINNING, NEW_TWICE), [("take", 0)])

    def test_verdict(self):
        word, play = ask_verdict(PLAN, BEGINNING, NEW_TWICE, "take", 0)
        self.assertEqual(word, "told")
        self.assertIs(is_bringing(FREE, BEGINNING, NEW_TWICE, play), True)
        self.assertEqual(ask_verdict(TWICE, BEGINNING, NEW_TWICE, "take", 1), ("never", [NEW_TWICE]))
        self.same_in_all_forms(ask_verdict, PLAN, BEGINNING, NEW_TWICE, "take", 0)
        self.new_each_time(ask_verdict, PLAN, BEGINNING, NEW_TWICE, "take", 0)

    def test_wrong(self):
        names = [("name", thing, BadName, thing) for thing in ("nix", "", None, 5, ["take"], Sour())]
        indexes = [("index", thing, BadIndex, thing) for thing in (1, -1, True, None, "0", 0.0, GREAT, [], Sour())]
        good = {"plan": PLAN, "beginning": BEGINNING, "asked": NEW_TWICE}
        self.refuses(ask_verdict, {**good, "name": "take", "index": 0}, [*WRONG, *names, *indexes])
        self.raised(BadIndex, 0, ask_verdict, PLAN, BEGINNING, NEW_TWICE, "pay", 0)
        for call in (needed_asks, without_idle):
            self.refuses(call, good, WRONG)

    def test_not_kept(self):
        asked = [shop(N, P)]
        for form in (asked, as_lists(asked), as_tuples(asked), []):
            for call, rest in ((needed_asks, ()), (without_idle, ()), (ask_verdict, ("take", 0)),
                               (ask_verdict, ("nix", 0)), (ask_verdict, (None, None)), (ask_verdict, ("take", 5))):
                self.raised(NotKept, form, call, PLAN, BEGINNING, form, *rest)
            self.raised(NotKept, form, needed_asks, plan=FREE, beginning=BEGINNING, asked=form)

    def test_forms(self):
        for call in (needed_asks, without_idle):
            self.same_in_all_forms(call, TWICE, BEGINNING, NEW_TWICE)
        self.new_each_time(needed_asks, PLAN, BEGINNING, NEW_TWICE)

    def test_last_ones_go_first(self):
        plan = guarded(FREE, MENU, [0, 1, 2])
        left = without_idle(plan, BEGINNING, NEW_TWICE)
        self.assertEqual(left.deed("take")[2], ((0, "order", ("paid",)),))
        self.assertEqual(left.deed("pay")[2], ())

    def test_at_random(self):
        chance = chance_of(161)
        idle = needed = 0
        for plan, beginning, asked in [*kept_within(chance, SOME_KINDS, 40),
                                       *kept_within(chance, SOME_KINDS, 12, True)]:
            found = needed_asks(plan, beginning, asked)
            self.assertEqual(found, plain_needed(plan, beginning, asked))
            needed += len(found)
            for name, index in asks_of(plan):
                told_or_never = ask_verdict(plan, beginning, asked, name, index)
                self.assertEqual(told_or_never[0] == "told", (name, index) in found)
                less = without_ask(plan, name, index)
                self.assertEqual(judged(less, beginning, asked, told_or_never), told_or_never[0])
            left = plan
            for name in sorted({name for name, _ in asks_of(plan)}):
                for index in range(len(plan.deed(name)[2]) - 1, -1, -1):
                    less = without_ask(left, name, index)
                    if verdict(less, beginning, asked)[0] == "never":
                        left = less
            found = without_idle(plan, beginning, asked)
            self.assertTrue(found == left)
            self.assertEqual(needed_asks(found, beginning, asked), asks_of(found))
            self.assertTrue(is_less(plan, found))
            idle += len(asks_of(plan)) - len(asks_of(found))
        self.assertGreater(idle, 20)
        self.assertGreater(needed, 3)

    def test_limits(self):
        for plan, beginning, asked in kept_within(chance_of(162), BIG_KINDS, 8):
            self.soon(needed_asks, plan, beginning, asked)
            self.soon(without_idle, plan, beginning, asked)
