"""[20.4] to [20.6]: what an upgrade lets."""

from anywithin.errors import BadAsked, BadBeginning, BadMany, BadPlan
from anywithin.handovers import handover
from anywithin.kinds import Kinds
from anywithin.least import is_above
from anywithin.plans import Plan
from anywithin.refusals import Clash
from anywithin.twoplans import both_plans, is_narrower
from anywithin.upgrades import only_mixed, only_together, upgrade
from anywithin.verdicts import verdict
from tests.helpers import (
    GREAT, Case, Sour, all_heaps, chance_of, no_beginnings, no_plans, no_stands, random_beginning, random_stand,
    shuffled, told,
)
from tests.test_handovers import ASKED, BEGINNING, LATER, leading_two
from tests.test_twoplans import NEITHER, NEW, OLD, WIDE, changed, narrowed, no_newer, plan_of
from tests.trials import BIG_KINDS, SOME_KINDS, leading_within, plain_least, random_plan

GOOD = {"plan": OLD, "newer": NEW, "beginning": BEGINNING}
HEAD = [*no_plans(BadPlan), *no_newer(), *no_beginnings(BadBeginning)]
MANY = [("many", thing, BadMany, thing) for thing in (-1, True, None, "2", 2.0, [2], -GREAT, Sour())]
# Neither of both is narrower.
ONE, OTHER = plan_of(WIDE), plan_of(changed(NEITHER[0]))


def plain_upgrade(plan, newer, begun, asked):
    """The four bools, each by its own verdict."""
    words = [verdict(one, begun, asked)[0] for one in (plan, newer, both_plans(plan, newer))]
    return (words[0] == "told", words[1] == "told", handover(plan, newer, begun, asked)[0] == "told", words[2] == "told")


class Upgrade(Case):

    def test_example(self):
        self.assertEqual(upgrade(OLD, NEW, BEGINNING, ASKED), (False, False, True, True))
        self.assertEqual(upgrade(OLD, NEW, BEGINNING, LATER), (False, False, False, True))

    def test_each_way(self):
        begun = [("shop", "open", [("order", "new", [], False)], False)]
        for asked, wanted in (
            ([("shop", "open", [("order", "paid", [])])], (True, False, True, True)),
            ([("shop", "shut", [])], (False, True, True, True)),
            ([("shop", "open", [])], (True, True, True, True)), ([], (True, True, True, True)),
            ([("shop", "open", [])] * 2, (False, False, False, False)),
        ):
            found = upgrade(plan=OLD, newer=NEW, beginning=begun, asked=asked)
            self.assertEqual(found, wanted)
            self.assertEqual([type(one) for one in found], [bool] * 4)
            self.assertIs(type(found), tuple)

    def test_forms_and_wrong(self):
        self.same_in_all_forms(upgrade, OLD, NEW, BEGINNING, ASKED)
        self.new_each_time(upgrade, OLD, NEW, BEGINNING, ASKED)
        self.refuses(upgrade, {**GOOD, "asked": ASKED}, [*HEAD, *no_stands(BadAsked, "asked", ASKED)])

    def test_clash_behind_all_others(self):
        for call, last in ((upgrade, ASKED), (only_mixed, 1), (only_together, 1)):
            with self.assertRaises(Clash) as caught:
                call(ONE, OTHER, BEGINNING, last)
            self.assertEqual(vars(caught.exception), {"name": "wide"})
            self.raised(BadPlan, None, call, None, OTHER, BEGINNING, last)
            self.raised(BadBeginning, 0, call, ONE, OTHER, None, last)
        self.raised(BadAsked, 0, upgrade, ONE, OTHER, BEGINNING, None)
        for call in (only_mixed, only_together):
            self.raised(BadMany, -1, call, ONE, OTHER, BEGINNING, -1)

    def test_as_each_verdict_says(self):
        chance = chance_of(212)
        seen = {}
        while len(seen) < 6 or min(seen.values()) < 2:
            kinds = chance.choice(SOME_KINDS)
            plan = random_plan(chance, kinds, chance.randint(1, 3), asks=1, turns=1, news=1, most=2)
            deeds = [(f"x{deed[0]}", *deed[1:]) for deed in random_plan(chance, kinds, 2, asks=1, news=1).all_deeds()]
            newer = Plan(kinds, [*deeds, *[narrowed(chance, kinds, deed) for deed in plan.all_deeds()[:1]]])
            asked = told(random_stand(chance, kinds, 3))
            if leading_two(plan, newer, asked) is None or leading_within(both_plans(plan, newer), asked) is None:
                continue
            begun = random_beginning(chance, kinds, 2)
            found = upgrade(plan, newer, begun, asked)
            self.assertEqual(found, plain_upgrade(plan, newer, begun, asked))
            old, new, handed, mixed = found
            self.assertTrue((handed or not (old or new)) and (mixed or not handed))
            seen[found] = seen.get(found, 0) + 1

    def test_narrower(self):
        """If plan is narrower than newer, new, handed and mixed are alike."""
        chance = chance_of(213)
        seen = set()
        while len(seen) < 3:
            kinds = chance.choice(SOME_KINDS)
            newer = random_plan(chance, kinds, 3, asks=1, turns=1, news=1, most=2)
            plan = Plan(kinds, [narrowed(chance, kinds, deed) for deed in newer.all_deeds()])
            self.assertIs(is_narrower(plan, newer), True)
            asked = told(random_stand(chance, kinds, 3))
            if leading_two(plan, newer, asked) is None:
                continue
            _, new, handed, mixed = found = upgrade(plan, newer, random_beginning(chance, kinds, 3), asked)
            self.assertEqual((handed, mixed), (new, new))
            seen.add(found)

    def test_limits(self):
        chance = chance_of(214)
        tried = 0
        while tried < 8:
            kinds = chance.choice(BIG_KINDS)
            plan = random_plan(chance, kinds, 3, asks=2, turns=2, pours=1, moves=2, news=2, most=3)
            other = random_plan(chance, kinds, 3, asks=2, turns=2, pours=1, moves=2, news=2, most=3)
            newer = Plan(kinds, [(f"x{deed[0]}", *deed[1:]) for deed in other.all_deeds()])
            asked = told(random_stand(chance, kinds, 4))
            if leading_two(plan, newer, asked) is None or leading_within(both_plans(plan, newer), asked) is None:
                continue
            tried += 1
            self.soon(upgrade, plan, newer, random_beginning(chance, kinds, 4), asked)


class Only(Case):

    def test_example(self):
        self.assertEqual(only_mixed(OLD, NEW, BEGINNING, 2), [(("shop", "late", ()),)])
        self.assertEqual(only_together(OLD, NEW, BEGINNING, 2), [
            (("shop", "late", ()),), (("shop", "shut", (("order", "paid", ()),)),)])

    def test_few(self):
        for call in (only_mixed, only_together):
            self.assertEqual(call(OLD, NEW, BEGINNING, 0), [])
            self.assertEqual(call(OLD, NEW, BEGINNING, 1), [(("shop", "late", ()),)])
            self.assertEqual(call(OLD, NEW, [], 2), [])
            self.assertEqual(call(OLD, OLD, BEGINNING, 2), [])
            self.assertEqual(call(Plan(Kinds([]), []), Plan(Kinds([]), []), [], 3), [])

    def test_forms_and_wrong(self):
        for call in (only_mixed, only_together):
            self.same_in_all_forms(call, OLD, NEW, BEGINNING, 2)
            self.new_each_time(call, OLD, NEW, BEGINNING, 2)
            self.assertEqual(call(plan=OLD, newer=NEW, beginning=shuffled(chance_of(1), BEGINNING), many=2), call(OLD, NEW, BEGINNING, 2))
            self.refuses(call, {**GOOD, "many": 1}, [*HEAD, *MANY])

    def test_as_the_words_say(self):
        """The least ones of all small stands, each looked at by itself; and just what is above them does not come so."""
        chance = chance_of(215)
        found = 0
        while found < 12:
            kinds = chance.choice(SOME_KINDS[:2])
            plan = random_plan(chance, kinds, 2, asks=1, turns=1, news=1, most=2)
            other = random_plan(chance, kinds, 2, asks=1, turns=1, news=1, most=2)
            newer = Plan(kinds, [(f"x{deed[0]}", *deed[1:]) for deed in other.all_deeds()])
            heaps = all_heaps(kinds, 2)
            if None in [leading_two(plan, newer, heap) for heap in heaps]:
                continue
            if None in [leading_within(both_plans(plan, newer), heap) for heap in heaps]:
                continue
            begun = random_beginning(chance, kinds, 2)
            four = {heap: plain_upgrade(plan, newer, begun, heap) for heap in heaps}
            mixed = only_mixed(plan, newer, begun, 2)
            together = only_together(plan, newer, begun, 2)
            self.assertEqual(mixed, plain_least([heap for heap in heaps if four[heap][3] and not four[heap][2]]))
            self.assertEqual(together, plain_least([heap for heap in heaps if four[heap][3] and four[heap][:2] == (False, False)]))
            found += len(mixed) + len(together) > 1
            for heap in heaps:
                if four[heap][3]:
                    self.assertEqual(is_above(kinds, mixed, heap), not four[heap][2])
                    self.assertEqual(is_above(kinds, together, heap), not (four[heap][0] or four[heap][1]))

    def test_limits(self):
        chance = chance_of(216)
        tried = 0
        while tried < 4:
            kinds = chance.choice(BIG_KINDS)
            plan = random_plan(chance, kinds, 3, asks=2, turns=1, pours=1, moves=1, news=1, most=2)
            other = random_plan(chance, kinds, 3, asks=2, turns=1, pours=1, moves=1, news=1, most=2)
            newer = Plan(kinds, [(f"x{deed[0]}", *deed[1:]) for deed in other.all_deeds()])
            both = both_plans(plan, newer)
            if None in [leading_within(both, [(kind, mark, [])]) for kind in kinds.parts("") for mark in kinds.marks(kind)]:
                continue
            tried += 1
            begun = random_beginning(chance, kinds, 4)
            for call in (only_mixed, only_together):
                self.soon(call, plan, newer, begun, 2)
