"""[21.6], [21.7]: safe beginnings."""

from anywithin.beds import bed_within, in_bed, told_bed
from anywithin.beginnings import begins, told_beginning
from anywithin.errors import BadAsked, BadBeginning, BadPlan
from anywithin.gardens import garden_fault, garden_of
from anywithin.kinds import Kinds
from anywithin.plans import Plan
from anywithin.rounds import least_leading
from anywithin.safe import bed_of, beginning_of, safe_beginnings
from anywithin.sprouts import is_within
from anywithin.verdicts import verdict
from tests.helpers import (
    Case, as_lists, chance_of, no_beginnings, no_plans, no_stands, random_beginning, random_stand, shuffled, size, told,
    told_seeds,
)
from tests.plots import DEEP, FOUR, LEVEL, PAIRS, SHOPS, E, mixed, places_in, random_bed
from tests.test_beds import BED, no_beds, no_kinds
from tests.trials import SOME_KINDS, leading_within, random_plan

PAY = ("pay", [("shop", None, {"open": "open"}), ("order", 0, {"new": "paid"})], [], [], [], [], [])
SHUT = ("shut", [("shop", None, {"open": "shut"})], [], [], [], [], [])
PLAN = Plan(SHOPS, [PAY, SHUT])
ASKED = [("shop", "shut", [("order", "paid", [])])]
SAFE = (("shop", "open", (), True), ("shop", "shut", (("order", "new", (), True),), True))
BEGUN = [("shop", "open", [("order", "new", [], True), ("order", "paid", [], False)], False), ("shop", "shut", [], True)]


def seeds_in(seeds):
    return sum(1 + seeds_in(seed[2]) for seed in seeds)


class Safe(Case):

    def test_example(self):
        n, p = ("order", "new", ()), ("order", "paid", ())
        self.assertEqual(least_leading(PLAN, ASKED), [
            (("shop", "open", (n,)),), (("shop", "open", (p,)),), (("shop", "shut", (p,)),)])
        self.assertEqual(safe_beginnings(PLAN, ASKED), [SAFE])

    def test_by_hand(self):
        bed = (
            (("shop", "open", ((("order", "paid", E),), (("order", "new", E),))),), (("shop", "shut", E),))
        self.assertEqual(bed_of(SHOPS, BEGUN), bed)
        self.assertEqual(beginning_of(SHOPS, bed), told_seeds(BEGUN))
        self.assertEqual((bed_of(SHOPS, []), beginning_of(SHOPS, E)), (E, ()))
        # bed_of is told; beginning_of has a seed for each place of bed as it is passed.
        twice = [("shop", "open", [], True), ("shop", "open", [], False), ("shop", "open", [], True)]
        self.assertEqual(bed_of(SHOPS, twice), ((), (("shop", "open", E),)))
        place = ("shop", "open", E)
        self.assertEqual(beginning_of(SHOPS, ([place, place], [place, place])), told_seeds(
            [("shop", "open", [], False)] * 2 + [("shop", "open", [], True)] * 2))

    def test_wrong(self):
        self.refuses(bed_of, {"kinds": SHOPS, "beginning": BEGUN}, [*no_kinds(), *no_beginnings(BadBeginning)])
        self.refuses(beginning_of, {"kinds": SHOPS, "bed": BED}, [*no_kinds(), *no_beds()])
        self.refuses(safe_beginnings, {"plan": PLAN, "asked": ASKED}, [*no_plans(BadPlan), *no_stands(BadAsked, "asked", ASKED)])

    def test_forms(self):
        chance = chance_of(231)
        wanted = self.same_in_all_forms(bed_of, SHOPS, BEGUN)
        self.assertEqual(bed_of(kinds=SHOPS, beginning=shuffled(chance, BEGUN)), wanted)
        wanted = self.same_in_all_forms(beginning_of, SHOPS, BED)
        self.assertEqual(beginning_of(kinds=SHOPS, bed=mixed(chance, BED)), wanted)
        self.same_in_all_forms(safe_beginnings, PLAN, ASKED)
        self.assertEqual(safe_beginnings(plan=PLAN, asked=as_lists(ASKED)), [SAFE])
        self.new_each_time(safe_beginnings, PLAN, ASKED)
        self.new_each_time(bed_of, SHOPS, as_lists(BEGUN))
        self.new_each_time(beginning_of, SHOPS, as_lists(BED))

    def test_what_lies_in_the_one_lies_in_the_other(self):
        chance = chance_of(232)
        for _ in range(200):
            kinds = chance.choice([LEVEL, PAIRS, FOUR, DEEP])
            begun, bed = random_beginning(chance, kinds, 5), random_bed(chance, kinds, 2)
            made, seeds = bed_of(kinds, begun), beginning_of(kinds, bed)
            self.assertEqual(made, told_bed(kinds, made))
            self.assertEqual(seeds, told_beginning(kinds, seeds))
            self.assertEqual(seeds_in(seeds), places_in(bed))
            self.assertEqual(bed_of(kinds, seeds), told_bed(kinds, bed))
            for _ in range(5):
                stand = random_stand(chance, kinds, 4)
                self.assertEqual(begins(kinds, begun, stand), in_bed(kinds, made, stand))
                self.assertEqual(begins(kinds, seeds, stand), in_bed(kinds, bed, stand))
            other = random_beginning(chance, kinds, 5)
            self.assertEqual(is_within(kinds, begun, other), bed_within(kinds, made, bed_of(kinds, other)))

    def test_just_those_from_which_it_never_comes(self):
        chance = chance_of(233)
        seen = {"told": 0, "never": 0}
        while min(seen.values()) < 80:
            kinds = chance.choice(SOME_KINDS)
            plan = random_plan(chance, kinds, chance.randint(1, 3), asks=2, turns=1, news=1, most=2)
            asked = told(random_stand(chance, kinds, 3))
            lists = leading_within(plan, asked, 3, 3)
            if lists is None:
                continue
            safe = safe_beginnings(plan, asked)
            beds = garden_of(kinds, lists[-1])
            self.assertEqual(safe, [beginning_of(kinds, bed) for bed in beds])
            self.assertIsNone(garden_fault(kinds, lists[-1], [bed_of(kinds, seeds) for seeds in safe]))
            for begun in safe:
                self.assertEqual(verdict(plan, begun, asked)[0], "never")
            for _ in range(5):
                begun = random_beginning(chance, kinds, 3)
                word = verdict(plan, begun, asked)[0]
                self.assertEqual(word == "never", any(is_within(kinds, begun, seeds) for seeds in safe))
                seen[word] += 1

    def test_nothing_is_safe(self):
        self.assertEqual(safe_beginnings(PLAN, []), [])
        make = ("make", [], [], [], [], [], [("shop", "open", None)])
        self.assertEqual(safe_beginnings(Plan(SHOPS, [make]), [("shop", "open", [])] * 2), [])
        self.assertEqual(safe_beginnings(Plan(SHOPS, []), [("shop", "open", [])]), [
            (("shop", "shut", (("order", "new", (), True), ("order", "paid", (), True)), True),)])

    def test_limits(self):
        """Three deeds, three stands of three records, four tops in all, four pairs at each of two levels."""
        chance = chance_of(234)
        tried = 0
        kinds = Kinds([("box", "", ["a", "b"], False), ("van", "", ["a", "b"], False), ("egg", "box", ["x", "y"], False),
                       ("fig", "van", ["x", "y"], False)])
        while tried < 25:
            plan = random_plan(chance, kinds, 3, asks=2, turns=1, pours=1, moves=1, news=1, most=2)
            asked = told(random_stand(chance, kinds, 3))
            lists = leading_within(plan, asked, 6, 5)
            if size(asked) < 2 or lists is None or len(lists[-1]) < 2:
                continue
            tried += 1
            for begun in self.soon(safe_beginnings, plan, asked):
                self.assertEqual(verdict(plan, begun, asked)[0], "never")
