"""The whole program: that what one function tells agrees with what others tell of the same plan."""

from anywithin.anyof import any_verdict, both_verdict
from anywithin.before import before_all
from anywithin.between import beginning_under, plan_under, stand_under
from anywithin.beds import in_bed
from anywithin.beginnings import begins
from anywithin.desks import Desk
from anywithin.gardens import garden_fault, garden_of, wall_of
from anywithin.handovers import handover
from anywithin.least import is_above, least_ones
from anywithin.levels import beginning_without_kind, without_kind
from anywithin.overlays import overlays
from anywithin.placings import lies_in
from anywithin.plans import Plan, is_less, plan_called, with_ask, without_deeds
from anywithin.plantexts import plan_text, read_plan
from anywithin.plays import is_bringing, is_play, stands_of
from anywithin.playtexts import play_text, read_play
from anywithin.refusals import LetsIn
from anywithin.rounds import fewest_deeds, least_leading, leads_too, rounds, soonest
from anywithin.safe import bed_of, safe_beginnings
from anywithin.sprouts import is_within, more_seeds, seeds_of
from anywithin.stands import stand_called, told_stand
from anywithin.standtexts import read_stands, stands_text
from anywithin.twoplans import both_plans, is_narrower
from anywithin.upgrades import upgrade
from anywithin.verdicts import judged, settled, verdict
from anywithin.walls import is_barrier, wall_thinned, walls_hold, walls_laid
from anywithin.watchedstands import unwatched, watched_stands
from anywithin.watchers import watched, watched_beginning
from tests.helpers import Case, chance_of, random_beginning, random_stand, told, told_seeds
from tests.test_levels import TWO_LEVELS, bare_kinds
from tests.test_watchers import random_watcher
from tests.trials import SOME_KINDS, leading_within, random_place, random_plan, random_play, seeds_for


def cases(chance, many, kinds_list=None, **most):
    """So many plans, beginnings and patterns within the limits, with the verdict; half of them never come."""
    left = {"told": many // 2, "never": many - many // 2}
    while sum(left.values()):
        kinds = chance.choice(kinds_list or SOME_KINDS)
        plan = random_plan(chance, kinds, chance.randint(1, 3), **{"asks": 2, "turns": 1, "news": 2, "most": 2, **most})
        asked = told(random_stand(chance, kinds, 3))
        if leading_within(plan, asked) is None:
            continue
        begun = random_beginning(chance, kinds, 3)
        word, shown = verdict(plan, begun, asked)
        if left[word]:
            left[word] -= 1
            yield kinds, plan, begun, asked, word, shown


def fewer_seeds(chance, seeds):
    """A beginning with some seeds less, and fewer of them with many."""
    return [[kind, mark, fewer_seeds(chance, inner), many and chance.random() < 0.6] for kind, mark, inner, many in seeds
            if chance.random() < 0.7]


def names_for(chance, kinds):
    """New names for all kinds and marks, those that are both led alike."""
    words = sorted({*kinds.all_kinds(), *[mark for kind in kinds.all_kinds() for mark in kinds.marks(kind)]})
    news = [f"n{index}" for index in range(len(words))]
    chance.shuffle(news)
    return dict(zip(words, news))


def seeds_called(seeds, names):
    return [(names[kind], names[mark], seeds_called(inner, names), many) for kind, mark, inner, many in seeds]


class Whole(Case):

    def test_walls_of_lesser_plans_and_beginnings(self):
        chance = chance_of(248)
        for kinds, plan, begun, asked, word, shown in cases(chance, 60):
            deed = chance.choice(plan.all_deeds())
            less = without_deeds(plan, [deed[0]])
            pair = random_place(chance, kinds, deed[1], False)
            more = plan if pair is None else with_ask(plan, deed[0], (*pair, []))
            self.assertTrue(is_less(less, plan) and is_less(more, plan) and is_narrower(less, plan) and is_narrower(more, plan))
            fewer = fewer_seeds(chance, begun)
            self.assertIs(is_within(kinds, fewer, begun), True)
            if word == "told":
                self.assertIs(is_bringing(plan, begun, asked, shown), True)
                continue
            for other in (less, more):
                self.assertIs(walls_hold(plan, begun, asked, shown, other), True)
                self.assertIs(is_barrier(other, fewer, asked, shown), True)
                self.assertEqual(verdict(other, fewer, asked)[0], "never")
            self.assertEqual(verdict(plan, fewer, asked), ("never", shown))
            self.assertEqual(wall_thinned(plan, begun, asked, shown), [
                heap for heap in shown if heap in wall_thinned(plan, begun, asked, shown)])

    def test_greater_patterns(self):
        """If one pattern lies in another one, the greater one comes no sooner, and a wall for the lesser one bars it."""
        chance = chance_of(249)
        for kinds, plan, begun, asked, word, shown in cases(chance, 50):
            greater = told([*asked, *random_stand(chance, kinds, 2)])
            self.assertIs(lies_in(kinds, asked, greater), True)
            if leading_within(plan, greater) is None:
                continue
            self.assertIs(leads_too(plan, asked, greater), True)
            there = verdict(plan, begun, greater)
            if word == "never":
                self.assertEqual(there[0], "never")
                self.assertIs(is_barrier(plan, begun, greater, shown), True)
            elif there[0] == "told":
                self.assertEqual(judged(plan, begun, asked, there), "told")
                self.assertLessEqual(fewest_deeds(plan, begun, asked), fewest_deeds(plan, begun, greater))

    def test_overlays_of_two(self):
        """Of both at once any_verdict of the overlays tells; one that lies in the other one says nothing more."""
        chance = chance_of(250)
        for kinds, plan, begun, asked, word, shown in cases(chance, 40):
            mate = told(random_stand(chance, kinds, 2))
            over = overlays(kinds, asked, mate)
            if None in [leading_within(plan, heap) for heap in over] or leading_within(plan, mate) is None:
                continue
            both = both_verdict(plan, begun, asked, mate)
            self.assertEqual(both, any_verdict(plan, begun, over))
            self.assertEqual(both[0], "told" if "told" in [verdict(plan, begun, heap)[0] for heap in over] else "never")
            if word == "never":
                self.assertEqual(both[0], "never")
            if lies_in(kinds, mate, asked):
                self.assertEqual((over, both), ([asked], (word, both[1])))
            plays, wall = settled(plan, begun, [asked, mate, *over])
            self.assertEqual(0 in plays, word == "told")
            if both[0] == "told":
                self.assertTrue(0 in plays and 1 in plays)
            if wall:
                walls = [least_leading(plan, one) for index, one in enumerate([asked, mate, *over]) if index not in plays]
                self.assertEqual(wall, walls_laid(plan, walls))

    def test_otherwise_called(self):
        chance = chance_of(251)
        for kinds, plan, begun, asked, word, shown in cases(chance, 50):
            names = names_for(chance, kinds)
            called = plan_called(plan, names)
            there, seeds = stand_called(kinds, asked, names), seeds_called(begun, names)
            found = verdict(called, seeds, there)
            self.assertEqual(found[0], word)
            self.assertEqual(fewest_deeds(called, seeds, there), fewest_deeds(plan, begun, asked))
            self.assertEqual(rounds(called, there), [sorted(stand_called(kinds, heap, names) for heap in heaps) for heaps in rounds(plan, asked)])
            self.assertEqual(before_all(called, there), {
                name: sorted(stand_called(kinds, heap, names) for heap in heaps) for name, heaps in before_all(plan, asked).items()})
            if word == "never":
                self.assertEqual(found[1], sorted(stand_called(kinds, heap, names) for heap in shown))
            back = {then: name for name, then in names.items()}
            self.assertEqual(plan_called(called, back), plan)
            beds = garden_of(kinds, [asked])
            self.assertEqual(len(garden_of(called.kinds(), [there])), len(beds))

    def test_one_level_more(self):
        chance = chance_of(252)
        for kinds, plan, begun, asked, word, shown in cases(chance, 40):
            more, seeds = plan_under(plan, "all", "one"), beginning_under(plan, begun, "all", "one")
            there = stand_under(plan, asked, "all", "one")
            found = verdict(more, seeds, there)
            self.assertEqual(found[0], word)
            if word == "never":
                self.assertEqual(found[1], sorted(stand_under(plan, heap, "all", "one") for heap in shown))
            self.assertEqual([len(heaps) for heaps in rounds(more, there)], [len(heaps) for heaps in rounds(plan, asked)])
            # Overlays of two, each in a record of top: side by side in two, or both in one.
            mate = told(random_stand(chance, kinds, 2))
            wanted = [*overlays(kinds, asked, mate)]
            led = [stand_under(plan, heap, "all", "one") for heap in wanted]
            apart = told([*there, *stand_under(plan, mate, "all", "one")])
            self.assertEqual(overlays(more.kinds(), there, stand_under(plan, mate, "all", "one")),
                             least_ones(more.kinds(), [*led, apart]))

    def test_gardens_of_walls(self):
        """No step of a play that begins above no wall ever leads above it: its stands lie in beds of the wall's garden."""
        chance = chance_of(253)
        for kinds, plan, begun, asked, word, shown in cases(chance, 40):
            wall = least_leading(plan, asked)
            if len(wall) > 3:
                continue
            beds = garden_of(kinds, wall)
            self.assertEqual(wall_of(kinds, beds), wall)
            self.assertIsNone(garden_fault(kinds, wall, beds))
            safe = safe_beginnings(plan, asked)
            self.assertEqual([bed_of(kinds, seeds) for seeds in safe], beds)
            self.assertEqual(word == "never", any(is_within(kinds, begun, seeds) for seeds in safe))
            for _ in range(4):
                first = told(random_stand(chance, kinds, 4))
                self.assertEqual(soonest(plan, asked, first) is None, any(in_bed(kinds, bed, first) for bed in beds))
                self.assertEqual(is_above(kinds, wall, first), not any(begins(kinds, seeds, first) for seeds in safe))
                play = random_play(chance, plan, first, 5)
                stands = stands_of(plan, seeds_for(first), play)
                if not is_above(kinds, wall, first):
                    self.assertTrue(all(any(in_bed(kinds, bed, heap) for bed in beds) for heap in stands))
                    self.assertFalse(any(lies_in(kinds, asked, heap) for heap in stands))
            for one in safe:
                for other in safe:
                    if one != other and verdict(plan, more_seeds(kinds, one, other), asked)[0] == "never":
                        self.fail("a greater beginning is safe")

    def test_from_a_stand(self):
        """From the seeds of a stand just what soonest says comes."""
        chance = chance_of(254)
        for kinds, plan, begun, asked, word, shown in cases(chance, 40):
            stand = told(random_stand(chance, kinds, 3))
            self.assertEqual(fewest_deeds(plan, seeds_of(kinds, stand), asked), soonest(plan, asked, stand))
            if word == "told":
                self.assertEqual(soonest(plan, asked, shown[0]), fewest_deeds(plan, begun, asked))

    def test_desks_let_what_verdicts_let(self):
        chance = chance_of(255)
        for kinds, plan, begun, asked, word, shown in cases(chance, 40):
            desk = Desk(kinds, begun)
            try:
                desk.keep(asked)
                for deed in plan.all_deeds():
                    desk.add(deed)
                self.assertEqual(word, "never")
                self.assertEqual(desk.plan(), plan)
            except LetsIn as caught:
                self.assertEqual((word, caught.asked), ("told", asked))

    def test_two_plans(self):
        chance = chance_of(256)
        for kinds, plan, begun, asked, word, shown in cases(chance, 40):
            self.assertEqual(both_plans(plan, plan), plan)
            self.assertEqual(upgrade(plan, plan, begun, asked), (word == "told",) * 4)
            none = Plan(kinds, [])
            self.assertEqual(handover(plan, none, begun, asked)[0], word)
            self.assertEqual(handover(none, plan, begun, asked)[0], word)
            if word == "never":
                self.assertEqual(handover(plan, none, begun, asked)[1], (shown, [asked]))
                self.assertEqual(handover(plan, plan, begun, asked)[1], (shown, shown))
                self.assertEqual(handover(none, plan, begun, asked)[1], (shown, shown))

    def test_watched_and_plain(self):
        """A wall of the watched plan for all watched stands is, without figures, no more than the plain one."""
        chance = chance_of(257)
        for kinds, plan, begun, asked, word, shown in cases(chance, 30):
            kind = chance.choice(kinds.all_kinds())
            watcher = random_watcher(chance, kinds, kind)
            more, seeds = watched(plan, kind, watcher), watched_beginning(plan, kind, watcher, begun)
            found = any_verdict(more, seeds, watched_stands(plan, kind, watcher, asked))
            self.assertEqual(found[0], word)
            if word == "never":
                plain = sorted({unwatched(plan, kind, watcher, heap) for heap in found[1]})
                self.assertEqual(plain, shown)
                self.assertEqual(sorted(found[1]), sorted(one for heap in shown for one in watched_stands(plan, kind, watcher, heap)))

    def test_without_a_kind(self):
        chance = chance_of(258)
        for kinds, plan, begun, asked, word, shown in cases(chance, 30, TWO_LEVELS):
            kind = chance.choice(bare_kinds(kinds))
            less, fewer = without_kind(plan, kind), beginning_without_kind(plan, begun, kind)
            if any(kind in str(heap) for heap in asked) or leading_within(less, asked) is None:
                continue
            there = verdict(less, fewer, asked)
            if word == "told":
                self.assertEqual(there[0], "told")

    def test_texts(self):
        """What is told can be written, read and judged again."""
        chance = chance_of(259)
        for kinds, plan, begun, asked, word, shown in cases(chance, 40):
            again = read_plan(kinds, plan_text(plan))
            self.assertEqual(verdict(again, begun, asked), (word, shown))
            if word == "told":
                play = read_play(again, play_text(plan, shown))
                self.assertEqual(play, shown)
                self.assertIs(is_play(plan, begun, play), True)
            else:
                wall = read_stands(kinds, stands_text(kinds, shown))
                self.assertEqual(wall, shown)
                self.assertEqual(judged(again, begun, asked, ("never", wall)), "never")

    def test_asked_again_and_again(self):
        """One plan may be asked of many things, in whatever order: the answers are those of a new plan."""
        chance = chance_of(261)
        for kinds, plan, begun, asked, _, _ in cases(chance, 10):
            other = random_plan(chance, kinds, 2, asks=1, news=1)
            newer = Plan(kinds, [(f"x{deed[0]}", *deed[1:]) for deed in other.all_deeds()])
            kind = chance.choice(kinds.all_kinds())
            watchers = [random_watcher(chance, kinds, kind) for _ in range(2)]
            if leading_within(both_plans(plan, newer), asked) is None:
                continue

            def answers(mine, theirs):
                return {
                    **{f"watched{at}": lambda at=at: watched(mine, kind, watchers[at]) for at in range(2)},
                    "handed": lambda: handover(mine, theirs, begun, asked), "back": lambda: handover(theirs, mine, begun, asked),
                    "upgrade": lambda: upgrade(mine, theirs, begun, asked), "empty": lambda: upgrade(mine, theirs, [], asked),
                    "under": lambda: plan_under(mine, "all", "one"), "safe": lambda: safe_beginnings(mine, asked),
                    "text": lambda: plan_text(mine), "verdict": lambda: verdict(mine, begun, asked), "none": lambda: verdict(mine, [], asked),
                }

            wanted = {}
            for name in answers(plan, newer):
                fresh = Plan(kinds, plan.all_deeds()), Plan(kinds, newer.all_deeds())
                wanted[name] = answers(*fresh)[name]()
            names = list(wanted) * 2
            chance.shuffle(names)
            for name in names:
                self.assertEqual(answers(plan, newer)[name](), wanted[name])

    def test_told_forms_are_one(self):
        """told_stand, told seeds and told beds: told again they stay."""
        chance = chance_of(260)
        for _ in range(40):
            kinds = chance.choice(SOME_KINDS)
            stand, begun = random_stand(chance, kinds, 6), random_beginning(chance, kinds, 6)
            self.assertEqual(told_stand(kinds, told(stand)), told(stand))
            self.assertEqual(bed_of(kinds, told_seeds(begun)), bed_of(kinds, begun))
