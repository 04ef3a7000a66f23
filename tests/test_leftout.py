"""[10.1], [10.2], [10.3], [10.6]: plays with less."""

from anywithin.errors import BadAsked, BadBeginning, BadIndex, BadPlan, BadPlay, NotBrought
from anywithin.grounds import Ground
from anywithin.leftout import deletions_needed, left_out, thinned, without_deletions
from anywithin.plans import Plan
from anywithin.plays import brings, ends, is_bringing, is_play, told_play
from tests.helpers import (
    GREAT, Case, Sour, as_tuples, chance_of, no_beginnings, no_plans, no_stands, random_stand, told,
)
from tests.test_lives import BEGINNING, FIRST, NO_PLAYS, PLAN, PLAY, STEPS, TOLD, no_plays
from tests.trials import SOME_KINDS, random_plan, random_play, seeds_for

SHUT = [("shop", "shut", [])]
HEAD = (("shop", "open", ()),)


def plain_left_out(plan, seeds, play, index):
    """The play without a step, by the names that records keep whatever number they have."""
    def run(steps):
        ground = Ground(plan, play[0])
        names = {number: ("first", number) for number in ground.numbers()}
        for at, step in steps:
            yield at, step, names
            if step[0] == "do":
                for order, number in enumerate(ground.do(step[1], step[2])):
                    names[number] = (at, order)
            else:
                ground.delete(step[1])

    gone = {index}
    named = {}
    for at, step, names in run(list(enumerate(play[1]))):
        named[at] = [names[number] for number in (step[2] if step[0] == "do" else [step[1]])]
        if any(name[0] in gone for name in named[at]):
            gone.add(at)
    ground = Ground(plan, play[0])
    numbers = {("first", number): number for number in ground.numbers()}
    found = []
    for at, step in enumerate(play[1]):
        if at in gone:
            continue
        now = [numbers[name] for name in named[at]]
        try:
            made = ground.do(step[1], now) if step[0] == "do" else ground.delete(now[0]) or []
        except ValueError:
            return None
        for order, number in enumerate(made):
            numbers[(at, order)] = number
        found.append(("do", step[1], now) if step[0] == "do" else ("delete", now[0]))
    return (told(play[0]), found)


class LeftOut(Case):

    def test_example(self):
        self.assertEqual(left_out(PLAN, BEGINNING, PLAY, 0),
                         (HEAD, [("do", "put", [0]), ("delete", 1), ("do", "close", [0])]))
        self.assertIsNone(left_out(PLAN, BEGINNING, PLAY, 3))
        self.assertEqual(thinned(PLAN, BEGINNING, SHUT, PLAY), (HEAD, [("do", "close", [0])]))

    def test_others(self):
        self.assertEqual(left_out(PLAN, BEGINNING, PLAY, 1),
                         (HEAD, [("do", "put", [0]), ("do", "send", [0, 1]), ("do", "close", [0])]))
        self.assertIsNone(left_out(PLAN, BEGINNING, PLAY, 2))
        self.assertEqual(left_out(PLAN, BEGINNING, PLAY, 4), (HEAD, STEPS[:4]))
        self.assertEqual(left_out(PLAN, BEGINNING, (FIRST, STEPS[:1]), 0), (HEAD, []))

    def test_what_hangs_on_what_hangs(self):
        """What was made by a step that goes takes along the steps that name it, and what these made."""
        kinds = PLAN.kinds()
        plan = Plan(kinds, [
            ("grow", [("shop", None, {"open": "open"})], [], [], [], [], [("shop", "open", None)]),
            ("put", [("shop", None, {"open": "open"})], [], [], [], [], [("order", "new", ("who", 0))]),
        ])
        steps = [("do", "grow", [0]), ("do", "grow", [0]), ("do", "grow", [1]), ("do", "put", [3]), ("delete", 4),
                 ("do", "put", [2]), ("delete", 5), ("delete", 0)]
        self.assertEqual(left_out(plan, BEGINNING, (FIRST, steps), 0),
                         (HEAD, [("do", "grow", [0]), ("do", "put", [1]), ("delete", 2), ("delete", 0)]))
        self.assertEqual(left_out(plan, BEGINNING, (FIRST, steps), 2),
                         (HEAD, [*steps[:2], ("do", "put", [2]), ("delete", 3), ("delete", 0)]))

    def test_wrong(self):
        good = {"plan": PLAN, "beginning": BEGINNING, "play": PLAY, "index": 0}
        wrong = [("index", thing, BadIndex, thing) for thing in (5, -1, True, None, "0", 0.0, GREAT, [], Sour())]
        self.refuses(left_out, good, [*no_plans(BadPlan), *no_beginnings(BadBeginning), *no_plays(), *wrong])
        self.raised(BadIndex, 0, left_out, PLAN, BEGINNING, (FIRST, []), 0)

    def test_forms(self):
        for index in range(5):
            self.same_in_all_forms(left_out, PLAN, BEGINNING, PLAY, index)
        self.new_each_time(left_out, PLAN, BEGINNING, PLAY, 0)

    def test_against_names_that_last(self):
        chance = chance_of(101)
        nones = 0
        for _ in range(150):
            kinds = chance.choice(SOME_KINDS)
            plan = random_plan(chance, kinds, 4, asks=2, news=3)
            first = random_stand(chance, kinds, 5)
            play = random_play(chance, plan, first, 8)
            seeds = seeds_for(told(first))
            for index in range(len(play[1])):
                found = left_out(plan, seeds, play, index)
                self.assertEqual(found, plain_left_out(plan, seeds, play, index))
                nones += found is None
                self.assertTrue(found is None or is_play(plan, seeds, found))
        self.assertGreater(nones, 5)


class Thinned(Case):

    def test_wrong(self):
        good = {"plan": PLAN, "beginning": BEGINNING, "asked": SHUT, "play": PLAY}
        for call in (thinned, deletions_needed):
            asked = [("shop", "shut", [("order", "new", [])])]
            self.refuses(call, good, [*no_plans(BadPlan), *no_beginnings(BadBeginning),
                                      *no_stands(BadAsked, "asked", SHUT), *no_plays()])
            self.raised(NotBrought, asked, call, PLAN, BEGINNING, asked, PLAY)
            for play in NO_PLAYS:
                self.raised(BadPlay, play, call, PLAN, BEGINNING, asked, play)

    def test_forms(self):
        for call in (thinned, deletions_needed):
            self.same_in_all_forms(call, PLAN, BEGINNING, SHUT, PLAY)
            self.new_each_time(call, PLAN, BEGINNING, SHUT, PLAY)

    def test_ends(self):
        self.assertEqual(thinned(PLAN, BEGINNING, [], PLAY), (HEAD, []))
        self.assertEqual(thinned(PLAN, BEGINNING, [("shop", "open", [])], (FIRST, [])), (HEAD, []))
        sent = [("shop", "shut", [("order", "sent", [])])]
        self.assertEqual(thinned(PLAN, BEGINNING, sent, PLAY),
                         (HEAD, [("do", "put", [0]), ("do", "send", [0, 1]), ("do", "close", [0])]))

    def test_again_and_again(self):
        """A first round may leave what a second one can take away."""
        plan = Plan(PLAN.kinds(), [
            ("put", [("shop", None, {"open": "open"})], [], [], [], [], [("order", "new", ("who", 0))]),
            ("both", [("shop", None, {"open": "shut"})], [(0, "order", ["new"])], [], [], [], []),
            ("send", [("shop", None, {"open": "open"}), ("order", 0, {"new": "sent"})], [], [], [], [], []),
            ("back", [("shop", None, {"open": "open"}), ("order", 0, {"sent": "new"})], [], [], [], [], []),
        ])
        seeds = [("shop", "open", [("order", "new", [], True)], True)]
        first = [("shop", "open", [("order", "new", [])])]
        steps = [("do", "send", [0, 1]), ("do", "back", [0, 1]), ("do", "both", [0])]
        self.assertIsNone(left_out(plan, seeds, (first, steps), 1))
        self.assertIsNone(left_out(plan, seeds, (first, steps), 0))
        # Neither may go alone: so both stay.
        self.assertEqual(thinned(plan, seeds, SHUT, (first, steps)), (told(first), steps))

    def test_against_a_plain_thinning(self):
        chance = chance_of(102)
        again = 0
        for _ in range(120):
            kinds = chance.choice(SOME_KINDS)
            plan = random_plan(chance, kinds, 4, asks=2)
            first = random_stand(chance, kinds, 5)
            play = random_play(chance, plan, first, 8)
            seeds = seeds_for(told(first))
            asked = told([record for record in ends(plan, seeds, play) if chance.random() < 0.4])
            left = told_play(plan, seeds, play)
            rounds = 0
            while True:
                before = left
                index = len(left[1]) - 1
                while index >= 0:
                    less = plain_left_out(plan, seeds, left, index)
                    if less is not None and is_bringing(plan, seeds, asked, less):
                        left = less
                    index -= 1
                rounds += 1
                if left == before:
                    break
            again += rounds > 2
            found = thinned(plan, seeds, asked, play)
            self.assertEqual(found, left)
            self.assertTrue(brings(plan, seeds, asked, found))
            for index in range(len(found[1])):
                less = left_out(plan, seeds, found, index)
                self.assertFalse(less is not None and brings(plan, seeds, asked, less))
        self.assertGreater(again, 0)

    def test_limits(self):
        steps = [("do", "put", [0]) for _ in range(14)] + [("do", "send", [0, 1 + index]) for index in range(14)]
        play = (FIRST, [*steps, ("do", "close", [0])])
        self.assertEqual(self.soon(thinned, PLAN, BEGINNING, SHUT, play), (HEAD, [("do", "close", [0])]))
        sent = [("shop", "shut", [("order", "sent", [])] * 14)]
        self.assertEqual(self.soon(thinned, PLAN, BEGINNING, sent, play), (HEAD, play[1]))


class Deletions(Case):

    def test_without(self):
        self.assertIsNone(without_deletions(PLAN, BEGINNING, PLAY))
        play = (FIRST, [*STEPS[:3], ("do", "send", [0, 2]), ("delete", 2), ("do", "close", [0]), ("delete", 0)])
        self.assertEqual(without_deletions(PLAN, BEGINNING, play),
                         (HEAD, [*STEPS[:3], ("do", "send", [0, 2]), ("do", "close", [0])]))
        self.assertEqual(without_deletions(PLAN, BEGINNING, (FIRST, [("delete", 0)])), (HEAD, []))
        self.same_in_all_forms(without_deletions, PLAN, BEGINNING, play)
        self.new_each_time(without_deletions, PLAN, BEGINNING, play)
        good = {"plan": PLAN, "beginning": BEGINNING, "play": PLAY}
        self.refuses(without_deletions, good, [*no_plans(BadPlan), *no_beginnings(BadBeginning), *no_plays()])

    def test_no_asks(self):
        """If no deed that it does has asks it is a play, and brings what the play brings."""
        chance = chance_of(103)
        for _ in range(100):
            kinds = chance.choice(SOME_KINDS)
            plan = random_plan(chance, kinds, 4, asks=0)
            first = random_stand(chance, kinds, 5)
            play = random_play(chance, plan, first, 8, 0.4)
            seeds = seeds_for(told(first))
            less = without_deletions(plan, seeds, play)
            self.assertEqual(less, (told(first), [step for step in play[1] if step[0] == "do"]))
            self.assertTrue(brings(plan, seeds, ends(plan, seeds, play), less))

    def test_needed(self):
        self.assertEqual(deletions_needed(PLAN, BEGINNING, SHUT, PLAY), [("delete", 2)])
        play = (FIRST, [*STEPS[:2], ("do", "put", [0]), ("delete", 3), *STEPS[2:], ("delete", 1)])
        self.assertEqual(deletions_needed(PLAN, BEGINNING, SHUT, play), [("delete", 3), ("delete", 2)])
        self.assertEqual(deletions_needed(PLAN, BEGINNING, [], (FIRST, [("delete", 0)])), [])
        self.assertEqual(deletions_needed(PLAN, BEGINNING, [], (FIRST, STEPS[:3])), [])

    def test_needed_at_random(self):
        chance = chance_of(104)
        needed = 0
        for _ in range(150):
            kinds = chance.choice(SOME_KINDS)
            plan = random_plan(chance, kinds, 4, asks=2)
            first = random_stand(chance, kinds, 6)
            play = as_tuples(random_play(chance, plan, first, 10, 0.5))
            seeds = seeds_for(told(first))
            asked = told([record for record in ends(plan, seeds, play) if chance.random() < 0.5])
            steps = list(play[1])
            for step in reversed(play[1]):
                less = [one for one in steps if one is not step]
                if step[0] == "delete" and is_bringing(plan, seeds, asked, (first, less)):
                    steps = less
            found = deletions_needed(plan, seeds, asked, play)
            self.assertEqual(found, [step for step in steps if step[0] == "delete"])
            needed += len(found)
        self.assertGreater(needed, 3)

    def test_told(self):
        self.assertEqual(without_deletions(PLAN, BEGINNING, TOLD), None)
        self.assertEqual(deletions_needed(PLAN, BEGINNING, SHUT, TOLD), [("delete", 2)])
