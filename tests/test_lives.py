"""[9.4], [9.5], [9.6]: lives, and how a play may stand otherwise."""

from anywithin.errors import BadBeginning, BadMany, BadNumber, BadPlan, BadPlay, BadSteps
from anywithin.grounds import Ground
from anywithin.kinds import Kinds
from anywithin.lives import life_of, named_at, play_ahead, play_behind
from anywithin.plans import Plan
from anywithin.plays import do_step, played, told_play
from tests.helpers import (
    GREAT, SHOPS, Case, Sour, as_lists, as_tuples, chance_of, no_beginnings, no_plans, odd_things, random_stand, told,
)
from tests.trials import SOME_KINDS, random_play, random_plan, seeds_for

CLOSE = ("close", [("shop", None, {"open": "shut"})], [(0, "order", ["sent"])], [], [], [], [])
SEND = ("send", [("shop", None, {"open": "open"}), ("order", 0, {"new": "sent"})], [], [], [], [], [])
PUT = ("put", [("shop", None, {"open": "open"})], [], [], [], [], [("order", "new", ("who", 0))])
PLAN = Plan(SHOPS, [CLOSE, SEND, PUT])
BEGINNING = [("shop", "open", [], True)]
FIRST = [("shop", "open", [])]
STEPS = [("do", "put", [0]), ("do", "put", [0]), ("do", "send", [0, 1]), ("delete", 2), ("do", "close", [0])]
PLAY = (FIRST, STEPS)
TOLD = ((("shop", "open", ()),), STEPS)

NO_PLAYS = [None, 5, (FIRST, [5]), ([], STEPS), ([("shop", "shut", [])], []), (FIRST, STEPS[:3] + STEPS[4:]), Sour()]


def no_plays():
    return [("play", thing, BadPlay, thing) for thing in NO_PLAYS]


class Lives(Case):

    def test_example(self):
        self.assertEqual(life_of(PLAN, BEGINNING, PLAY, 1), [(0, "new", 0), (2, "sent", 0)])
        self.assertEqual(life_of(PLAN, BEGINNING, PLAY, 2), [(1, "new", 0), (3, None, None)])
        self.assertEqual(life_of(PLAN, BEGINNING, PLAY, 0), [(-1, "open", None), (4, "shut", None)])
        self.assertEqual(named_at(PLAN, BEGINNING, PLAY, 1), [2])

    def test_named(self):
        self.assertEqual(named_at(PLAN, BEGINNING, PLAY, 0), [0, 1, 2, 4])
        self.assertEqual(named_at(PLAN, BEGINNING, PLAY, 2), [3])
        self.assertEqual(named_at(PLAN, BEGINNING, (FIRST, STEPS[:2]), 1), [])

    def test_wrong(self):
        for call in (life_of, named_at):
            good = {"plan": PLAN, "beginning": BEGINNING, "play": PLAY, "number": 2}
            wrong = [("number", thing, BadNumber, thing) for thing in (
                3, -1, True, None, "1", 1.0, [1], GREAT, Sour(), {})]
            self.refuses(call, good, [*no_plans(BadPlan), *no_beginnings(BadBeginning), *no_plays(), *wrong])
            self.raised(BadNumber, 0, call, PLAN, BEGINNING, ([], []), 0)

    def test_forms(self):
        for call in (life_of, named_at):
            for number in range(3):
                self.same_in_all_forms(call, PLAN, BEGINNING, PLAY, number)
            self.new_each_time(call, PLAN, BEGINNING, PLAY, 0)
        self.assertIs(type(life_of(PLAN, BEGINNING, PLAY, 0)[0]), tuple)

    def test_what_becomes_of_them(self):
        """Moved, poured, turned by turns, gone with what it lies in, gone within the step that made it."""
        kinds = Kinds([("box", "", ["a", "b"], False), ("egg", "box", ["x", "y"], False)])
        box, egg = ("box", None, {"a": "a"}), ("egg", 0, {"x": "x"})
        plan = Plan(kinds, [
            ("flash", [("box", None, {"a": None})], [], [], [], [], [("egg", "x", ("who", 0)), ("box", "b", None)]),
            ("move", [box, egg, box], [], [], [], [(1, ("who", 2))], []),
            ("pour", [box, box], [], [], [(0, "egg", ("who", 1))], [], []),
            ("stir", [box], [], [(0, "egg", {"x": "y", "y": "y"})], [], [], []),
            ("nest", [box, egg], [], [], [], [(1, ("new", 0))], [("box", "b", None)]),
        ])
        first = [("box", "a", []), ("box", "a", [("egg", "x", [])])]
        steps = [("do", "move", [1, 2, 0]), ("do", "pour", [0, 1]), ("do", "pour", [1, 0]), ("do", "move", [0, 2, 1]),
                 ("do", "stir", [0]), ("do", "flash", [0]), ("do", "nest", [1, 2]), ("delete", 5)]
        seeds = [("box", "a", [("egg", "x", [], True)], True)]
        lives = [life_of(plan, seeds, (first, steps), number) for number in range(6)]
        self.assertEqual(lives, [
            [(-1, "a", None), (5, None, None)],
            [(-1, "a", None)],
            [(-1, "x", 1), (0, "x", 0), (1, "x", 1), (2, "x", 0), (3, "x", 1), (6, "x", 5), (7, None, None)],
            [(5, None, None)],
            [(5, "b", None)],
            [(6, "b", None), (7, None, None)],
        ])
        self.assertEqual(named_at(plan, seeds, (first, steps), 2), [0, 3, 6])

    def test_holds_at_random(self):
        chance = chance_of(91)
        for _ in range(150):
            kinds = chance.choice(SOME_KINDS)
            plan = random_plan(chance, kinds, 4)
            first = random_stand(chance, kinds, 5)
            play = random_play(chance, plan, first, 8)
            seeds = seeds_for(told(first))
            ground = played(plan, seeds, play)
            lives = [life_of(plan, seeds, play, number) for number in range(ground.given())]
            self.assertEqual(lives, plain_lives(plan, play))
            for number in range(ground.given()):
                named = named_at(plan, seeds, play, number)
                self.assertEqual(named, [index for index, step in enumerate(play[1])
                                         if number in (step[2] if step[0] == "do" else [step[1]])])
                begun, last = lives[number][0][0], lives[number][-1]
                self.assertTrue(all(index > begun and (last[1] is not None or index <= last[0]) for index in named))


def plain_lives(plan, play):
    """What becomes of all records, by a look at each ground on the way."""
    ground = Ground(plan, play[0])
    rows = [[ground.record(number) for number in range(ground.given())]]
    for step in play[1]:
        do_step(ground, step)
        rows.append([ground.record(number) for number in range(ground.given())])
    found = []
    for number in range(ground.given()):
        life = []
        for index, row in enumerate(rows):
            if number < len(row):
                now = (None, None) if row[number] is None else row[number][1:]
                if not life or life[-1][1:] != now:
                    life.append((index - 1, *now))
        found.append(life)
    return found


class Otherwise(Case):

    def test_behind(self):
        ahead = (FIRST, STEPS[:2])
        self.assertEqual(play_behind(PLAN, BEGINNING, ahead, STEPS[2:]), TOLD)
        self.assertEqual(play_behind(PLAN, BEGINNING, PLAY, []), TOLD)
        self.assertEqual(play_behind(PLAN, BEGINNING, ([], []), []), ((), []))
        for form in (as_lists, as_tuples):
            self.assertEqual(play_behind(plan=PLAN, beginning=form(BEGINNING), play=form(ahead), steps=form(STEPS[2:])),
                             TOLD)
        told_steps = play_behind(PLAN, BEGINNING, ahead, as_lists(STEPS[2:]))[1]
        self.assertTrue(all(type(step) is tuple for step in told_steps))
        self.assertTrue(all(type(step[2]) is list for step in told_steps if step[0] == "do"))
        self.new_each_time(play_behind, PLAN, BEGINNING, ahead, STEPS[2:])

    def test_bad_steps(self):
        good = {"plan": PLAN, "beginning": BEGINNING, "play": (FIRST, STEPS[:2]), "steps": STEPS[2:]}
        wrong = [("steps", thing, BadSteps, index) for thing, index in (
            (None, 0), ("do", 0), ({}, 0), (5, 0), (Sour(), 0), ([5], 0), ([Sour()], 0), ([*STEPS[2:], None], 3),
            ([("do", "nix", [0])], 0), ([("do", "put", [0]), ("do", "put", [1])], 1), ([("delete", 2), ("delete", 2)], 1),
            ([("delete", True)], 0), ([("do", "send", [0, 0])], 0), ([("do", "close", [0])], 0),
            ([("do", "put", [])], 0), ([("do", "put", [0]), ("do", "send", [0, 4])], 1), ([("delete", GREAT)], 0))]
        self.refuses(play_behind, good, [*no_plans(BadPlan), *no_beginnings(BadBeginning), *no_plays(), *wrong])
        for thing in odd_things():
            if not isinstance(thing, (list, tuple)):
                self.raised(BadSteps, 0, play_behind, PLAN, BEGINNING, PLAY, thing)

    def test_ahead(self):
        for many in range(6):
            self.assertEqual(play_ahead(PLAN, BEGINNING, PLAY, many), (TOLD[0], STEPS[:many]))
        self.same_in_all_forms(play_ahead, PLAN, BEGINNING, PLAY, 3)
        self.new_each_time(play_ahead, PLAN, BEGINNING, PLAY, 5)
        good = {"plan": PLAN, "beginning": BEGINNING, "play": PLAY, "many": 5}
        wrong = [("many", thing, BadMany, thing) for thing in (6, -1, True, None, "1", 2.0, GREAT, [], Sour())]
        self.refuses(play_ahead, good, [*no_plans(BadPlan), *no_beginnings(BadBeginning), *no_plays(), *wrong])

    def test_one_behind_the_other(self):
        chance = chance_of(92)
        for _ in range(60):
            kinds = chance.choice(SOME_KINDS)
            plan = random_plan(chance, kinds, 3)
            first = random_stand(chance, kinds, 5)
            seeds = seeds_for(told(first))
            play = random_play(chance, plan, first, 7)
            for many in range(len(play[1]) + 1):
                ahead = play_ahead(plan, seeds, play, many)
                again = play_behind(plan, seeds, ahead, play[1][many:])
                self.assertEqual(again, told_play(plan, seeds, play))

    def test_limits(self):
        steps = [("do", "put", [0]) for _ in range(29)] + [("do", "send", [0, 1 + index]) for index in range(29)]
        play = (FIRST, [*steps, ("do", "close", [0])])
        self.soon(life_of, PLAN, BEGINNING, play, 0)
        self.soon(named_at, PLAN, BEGINNING, play, 0)
        self.soon(play_behind, PLAN, BEGINNING, play, [("delete", 0)])
        self.assertEqual(self.soon(play_ahead, PLAN, BEGINNING, play, 58)[1], steps)
