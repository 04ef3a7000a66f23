"""[18.3]: plays of watched plans."""

from anywithin.errors import BadBeginning, BadNumber, BadPlan, BadPlay
from anywithin.grounds import Ground
from anywithin.kinds import Kinds
from anywithin.lives import life_of
from anywithin.plans import Plan
from anywithin.plays import do_step, is_play, played, told_play
from anywithin.trees import numbers_of
from anywithin.watchedplays import state_behind, unwatched_play, watched_play
from anywithin.watchers import watched, watched_beginning
from tests.helpers import (
    GREAT, Case, Sour, as_lists, as_tuples, chance_of, no_beginnings, no_plans, random_stand, shuffled, told,
)
from tests.test_watchers import BEGINNING, KINDS, PLAN, WATCHER, lead, no_kinds, no_watchers, random_watcher
from tests.trials import BIG_KINDS, SOME_KINDS, random_plan, random_play, seeds_for

N = ("order", "new", [])
FIRST = [("shop", "open", [N, N])]
PLAY = (FIRST, [("do", "pay", [0, 2]), ("do", "rush", [0, 1]), ("do", "send", [0, 2])])
MORE = watched(PLAN, "order", WATCHER)
BEGUN = watched_beginning(PLAN, "order", WATCHER, BEGINNING)
THERE = ([("shop", "open", [("order", "new0", []), ("order", "new0", [])])], PLAY[1])
NO_PLAYS = [None, 5, (FIRST, [5]), ([], PLAY[1]), ([("shop", "open", [("order", "sent", [])])], []), (FIRST, PLAY[1][::-1]), Sour()]


class WatchedPlay(Case):

    def test_over_and_back(self):
        wanted = ((("shop", "open", (("order", "new0", ()), ("order", "new0", ()))),), PLAY[1])
        self.assertEqual(watched_play(PLAN, BEGINNING, "order", WATCHER, PLAY), wanted)
        self.assertEqual(unwatched_play(PLAN, BEGINNING, "order", WATCHER, THERE), told_play(PLAN, BEGINNING, PLAY))
        self.assertEqual([state_behind(PLAN, BEGINNING, "order", WATCHER, PLAY, number) for number in (1, 2)], [0, 1])

    def test_wrong(self):
        good = {"plan": PLAN, "beginning": BEGINNING, "kind": "order", "watcher": WATCHER}
        head = [*no_plans(BadPlan), *no_beginnings(BadBeginning), *no_kinds(), *no_watchers()]
        plays = [("play", thing, BadPlay, thing) for thing in NO_PLAYS]
        self.refuses(watched_play, {**good, "play": PLAY}, [*head, *plays, ("play", THERE, BadPlay, THERE)])
        self.refuses(unwatched_play, {**good, "play": THERE}, [*head, *plays, ("play", PLAY, BadPlay, PLAY)])
        numbers = [("number", thing, BadNumber, thing) for thing in (0, 3, -1, True, None, "1", 1.0, GREAT, [1], Sour())]
        self.refuses(state_behind, {**good, "play": PLAY, "number": 2}, [*head, *plays, *numbers])

    def test_plays_by_their_own_beginning(self):
        """A play of the watched plan begins with figures of first states alone."""
        for mark in ("new1", "paid0", "new"):
            play = ([("shop", "open", [("order", mark, [])])], [])
            self.raised(BadPlay, play, unwatched_play, PLAN, BEGINNING, "order", WATCHER, play)
        born = ({"new": 1, "paid": 0, "sent": 0}, {})
        play = ([("shop", "open", [("order", "new1", [])])], [("do", "rush", [0, 1])])
        self.assertEqual(unwatched_play(PLAN, BEGINNING, "order", born, play), (
            (("shop", "open", (("order", "new", ()),)),), [("do", "rush", [0, 1])]))
        self.raised(BadPlay, PLAY, unwatched_play, PLAN, BEGINNING, "order", born, PLAY)

    def test_numbers_led_over(self):
        """Marks with figures may stand in another order: "a1" and "a", in state 1, become "a10" and "a1"."""
        kinds = Kinds([("bin", "", ["a", "a1", "a00"], False), ("cup", "bin", ["x"], False)])
        go = ("go", [("bin", None, {"a": "a1", "a1": "a", "a00": "a"}), ("cup", 0, {"x": None})], [], [], [], [], [])
        plan = Plan(kinds, [go, ("make", [], [], [], [], [], [("bin", "a", None)])])
        watcher = ({"a": 1, "a1": 0, "a00": 0}, {})
        x = ("cup", "x", [])
        first = [("bin", "a", [x, x]), ("bin", "a", [x]), ("bin", "a00", [x]), ("bin", "a1", [x])]
        # Told: a with one cup (0), with two (2), a00 (5), a1 (7); then: a00 with one (0), a1 with one (2), two (4), a10 (7).
        play = (first, [("do", "go", [0, 1]), ("do", "make", []), ("do", "go", [2, 4]), ("delete", 6), ("do", "go", [7, 8]), ("delete", 9)])
        seeds = seeds_for(first, True)
        found = watched_play(plan, seeds, "bin", watcher, play)
        self.assertEqual(found, (
            (("bin", "a000", (x[:2] + ((),),)), ("bin", "a1", (x[:2] + ((),),)), ("bin", "a1", (x[:2] + ((),),) * 2),
             ("bin", "a10", (x[:2] + ((),),))),
            [("do", "go", [2, 3]), ("do", "make", []), ("do", "go", [4, 6]), ("delete", 1), ("do", "go", [7, 8]), ("delete", 9)]))
        self.assertEqual(unwatched_play(plan, seeds, "bin", watcher, found), told_play(plan, seeds, play))

    def test_forms(self):
        for call, play in ((watched_play, PLAY), (unwatched_play, THERE)):
            wanted = self.same_in_all_forms(call, PLAN, BEGINNING, "order", WATCHER, play)
            self.assertEqual(wanted, call(plan=PLAN, beginning=BEGINNING, kind="order", watcher=WATCHER, play=as_lists(play)))
            self.new_each_time(call, PLAN, BEGINNING, "order", WATCHER, play)
            self.assertIs(type(wanted), tuple)
            self.assertIs(type(wanted[1][0][2]), list)
        self.assertEqual(state_behind(plan=PLAN, beginning=BEGINNING, kind="order", watcher=list(WATCHER), play=as_tuples(PLAY), number=2), 1)

    def right(self, plan, seeds, kind, watcher, play):
        """Both are plays that lead to one another; step by step the like records are there, in the like ones."""
        more, begun = watched(plan, kind, watcher), watched_beginning(plan, kind, watcher, seeds)
        there = watched_play(plan, seeds, kind, watcher, play)
        self.assertIs(is_play(more, begun, there), True)
        self.assertEqual(unwatched_play(plan, seeds, kind, watcher, there), told_play(plan, seeds, play))
        mine, theirs = Ground(plan, play[0]), Ground(more, there[0])
        led = self.led(mine, theirs, kind, watcher)
        for step, other in zip([None, *play[1]], [None, *there[1]]):
            if step is not None:
                do_step(mine, step)
                do_step(theirs, other)
            led.update({number: number for number in range(len(led), mine.given())})
            self.assertEqual(mine.given(), theirs.given())
            self.assertEqual(sorted(led[number] for number in mine.numbers()), theirs.numbers())
            for number in mine.numbers():
                one, mark, above = mine.record(number)
                wanted = (one, mark, None if above is None else led[above])
                other_one, other_mark, other_above = theirs.record(led[number])
                plain = other_mark[:-1] if one == kind else other_mark
                self.assertEqual((other_one, plain, other_above), wanted)
        return there, led

    def led(self, mine, theirs, kind, watcher):
        """By a plain look: alike ones stay in the order that they had."""
        rows = {}
        for number in mine.numbers():
            one, mark, above = mine.record(number)
            rows[number] = (one, f"{mark}{watcher[0][mark]}" if one == kind else mark, above)
        led = {number: place for place, number in enumerate(numbers_of(rows))}
        self.assertEqual(len(led), theirs.given())
        for one in led:
            for other in led:
                if one < other and rows[one][2] == rows[other][2] and mine_alike(mine, one) == mine_alike(mine, other):
                    self.assertLess(led[one], led[other])
        return led

    def test_at_random(self):
        chance = chance_of(186)
        states = set()
        for _ in range(200):
            kinds = chance.choice([*SOME_KINDS, ODD])
            plan = random_plan(chance, kinds, 4, asks=1, turns=2, pours=2, moves=2, news=2, most=3)
            kind = chance.choice(kinds.all_kinds())
            watcher = random_watcher(chance, kinds, kind, 3)
            first = random_stand(chance, kinds, 5)
            play = random_play(chance, plan, first, 8)
            seeds = seeds_for(shuffled(chance, first), True)
            there, led = self.right(plan, seeds, kind, watcher, play)
            ground = played(plan, seeds, play)
            behind = played(watched(plan, kind, watcher), watched_beginning(plan, kind, watcher, seeds), there)
            for number in range(ground.given()):
                try:
                    state = state_behind(plan, seeds, kind, watcher, play, number)
                except BadNumber:
                    self.assertTrue(ground.record(number) is None or ground.record(number)[0] != kind)
                    continue
                if ground.record(number) is None:
                    self.assertIsNone(state)
                else:
                    self.assertEqual(behind.record(led[number])[1][-1], str(state))
                    self.assertEqual(state, plain_state(watcher, life_of(plan, seeds, play, number)))
                states.add(state)
        self.assertEqual(states, {None, 0, 1, 2})

    def test_gone(self):
        """Gone, gone with what it lay in, gone within the step that made it; of which kind it was is still known."""
        kinds = Kinds([("bin", "", ["a", "b"], False), ("cup", "bin", ["x", "y"], False)])
        drop = ("drop", [("bin", None, {"a": None})], [], [], [], [], [("cup", "x", ("who", 0))])
        put = ("put", [("bin", None, {"a": "a"})], [], [], [], [], [("cup", "x", ("who", 0))])
        plan = Plan(kinds, [drop, put])
        watcher = ({"x": 1, "y": 0}, {})
        first, begun = [("bin", "a", [("cup", "y", [])]), ("bin", "b", [])], [("bin", "a", [("cup", "y", [], True)], True), ("bin", "b", [], True)]
        play = (first, [("do", "put", [0]), ("delete", 1), ("do", "drop", [0])])
        self.assertEqual([state_behind(plan, begun, "cup", watcher, (first, []), 1)], [0])
        self.assertEqual([state_behind(plan, begun, "cup", watcher, (first, play[1][:1]), 3)], [1])
        for number in (1, 3, 4):
            self.assertIsNone(state_behind(plan, begun, "cup", watcher, play, number))
        for number in (0, 2, 5):
            self.raised(BadNumber, number, state_behind, plan, begun, "cup", watcher, play, number)
        self.assertIsNone(state_behind(plan, begun, "bin", ({"a": 0, "b": 2}, {}), play, 0))
        self.assertEqual(state_behind(plan, begun, "bin", ({"a": 0, "b": 2}, {}), play, 2), 2)
        self.raised(BadNumber, 4, state_behind, plan, begun, "bin", ({"a": 0, "b": 2}, {}), play, 4)

    def test_a_mark_that_stays(self):
        """A deed by which the mark stays moves no state; one by others' turns moves it, too."""
        stay = lead("stay", "new", "new")
        all_paid = ("all", [("shop", None, {"open": "open"})], [], [(0, "order", {"new": "paid", "paid": "paid"})], [], [], [])
        plan = Plan(KINDS, [stay, all_paid, lead("back", "paid", "new")])
        watcher = ({"new": 0, "paid": 0, "sent": 0}, {(0, "new"): 3, (0, "paid"): 1, (1, "paid"): 2, (1, "new"): 1})
        steps = [("do", "stay", [0, 1]), ("do", "all", [0]), ("do", "all", [0]), ("do", "back", [0, 1]), ("do", "all", [0])]
        wanted = [0, 0, 1, 1, 1, 2]
        for many, state in enumerate(wanted):
            play = ([("shop", "open", [N])], steps[:many])
            self.assertEqual(state_behind(plan, BEGINNING, "order", watcher, play, 1), state)

    def test_limits(self):
        chance = chance_of(187)
        for _ in range(4):
            kinds = chance.choice(BIG_KINDS)
            plan = random_plan(chance, kinds, 5, asks=1, turns=2, pours=1, moves=2, news=2, most=3)
            first = random_stand(chance, kinds, 20)
            play = random_play(chance, plan, first, 40)
            seeds = seeds_for(told(first), True)
            kind = chance.choice(kinds.all_kinds())
            watcher = random_watcher(chance, kinds, kind)
            there = self.soon(watched_play, plan, seeds, kind, watcher, play)
            self.assertEqual(self.soon(unwatched_play, plan, seeds, kind, watcher, there), told_play(plan, seeds, play))


# Marks that stand in another order with figures behind them.
ODD = Kinds([("box", "", ["a", "a0", "a1", "a00"], False), ("egg", "box", ["x", "x1"], False)])


def mine_alike(ground, number):
    """The told record of a number, to be held against another one."""
    kind, mark, _ = ground.record(number)
    return (kind, mark, tuple(sorted(mine_alike(ground, part) for part in ground.parts(number))))


def plain_state(watcher, life):
    state, ahead = None, None
    for _, mark, _ in life:
        if ahead is None:
            state = watcher[0][mark]
        elif mark != ahead:
            state = watcher[1].get((state, mark), state)
        ahead = mark
    return state
