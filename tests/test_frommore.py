"""[10.4], [10.5], [10.6]: plays from more, and beside one another."""

from anywithin.errors import BadBeginning, BadFirst, BadLater, BadName, BadPlan, NotLocal, NotMore
from anywithin.frommore import both_played, from_more, is_local
from anywithin.placings import lies_in
from anywithin.plans import Plan
from anywithin.plays import deeds_of, ends, is_play, play_fault
from tests.helpers import (
    SHOPS, Case, Sour, as_lists, as_tuples, chance_of, no_beginnings, no_plans, no_stands, random_stand,
    shuffled, told,
)
from tests.test_lives import BEGINNING, FIRST, NO_PLAYS, PLAN, PLAY, no_plays
from tests.trials import SOME_KINDS, THREE, random_plan, random_play, seeds_for

N, S = ("order", "new", []), ("order", "sent", [])
MANY = [("shop", "open", [("order", "new", [], True)], True)]
CLOSED = (FIRST, [("do", "close", [0])])


def deed(name, who=(), asks=(), turns=(), pours=(), moves=(), news=()):
    return (name, list(who), list(asks), list(turns), list(pours), list(moves), list(news))


class FromMore(Case):

    def right(self, plan, seeds, play, first, found):
        """It is a play from first, with the same deeds and deletions, in whose end that of play lies."""
        self.assertIsNone(play_fault(plan, seeds, found))
        self.assertEqual(found[0], told(first))
        self.assertEqual(deeds_of(plan, seeds, found), deeds_of(plan, seeds, play))
        self.assertTrue(lies_in(plan.kinds(), ends(plan, seeds, play), ends(plan, seeds, found)))

    def test_example(self):
        found = from_more(PLAN, MANY, CLOSED, [("shop", "open", [N, N])])
        self.right(PLAN, MANY, CLOSED, [("shop", "open", [N, N])], found)
        self.assertEqual(sorted(found[1][:2]), [("delete", 1), ("delete", 2)])
        self.assertEqual(found[1][2:], [("do", "close", [0])])

    def test_forms(self):
        first = [("shop", "open", [N]), ("shop", "open", [N, N])]
        found = self.same_in_all_forms(from_more, PLAN, MANY, PLAY, first)
        self.right(PLAN, MANY, PLAY, first, found)
        self.assertEqual(from_more(PLAN, MANY, PLAY, first[::-1]), found)
        self.new_each_time(from_more, PLAN, MANY, PLAY, first)
        self.assertEqual(from_more(PLAN, BEGINNING, PLAY, FIRST), from_more(PLAN, BEGINNING, as_tuples(PLAY), FIRST))

    def test_wrong(self):
        good = {"plan": PLAN, "beginning": MANY, "play": CLOSED, "first": [("shop", "open", [N])]}
        self.refuses(from_more, good, [*no_plans(BadPlan), *no_beginnings(BadBeginning), *no_plays(),
                                       *no_stands(BadFirst, "first", [("shop", "open", [N])])])
        for first in ([], [("shop", "shut", [])], [("shop", "open", [S])], [("shop", "open", []), ("shop", "shut", [])]):
            self.raised(NotMore, first, from_more, PLAN, MANY, CLOSED, first)
        self.raised(NotMore, FIRST, from_more, PLAN, MANY, ([("shop", "open", [N])], []), FIRST)
        one = [("shop", "open", [], False)]
        two = FIRST * 2
        self.raised(NotMore, two, from_more, PLAN, one, CLOSED, two)

    def test_at_random(self):
        chance = chance_of(105)
        barred = 0
        for _ in range(300):
            kinds = chance.choice(SOME_KINDS)
            plan = random_plan(chance, kinds, 4, asks=2, turns=2, pours=2, news=2, most=3)
            first = random_stand(chance, kinds, 4)
            play = random_play(chance, plan, first, 7, 0.3)
            more = shuffled(chance, [*as_lists(told(first)), *random_stand(chance, kinds, 4)])
            for row in more:
                # More also within what is there.
                row[2].extend([kind, chance.choice(kinds.marks(kind)), []] for kind in kinds.parts(row[0])
                              if chance.random() < 0.4)
            seeds = seeds_for(told(more), True)
            found = from_more(plan, seeds, play, more)
            self.right(plan, seeds, play, more, found)
            barred += len(found[1]) > len(play[1])
            lasting = [step for step in found[1] if step[0] == "delete"]
            self.assertTrue(is_play(plan, seeds, found) and all(len(step) == 2 for step in lasting))
        self.assertGreater(barred, 3)

    def test_more_within(self):
        """What is more lies within what is there already, moves with it, and bars it."""
        plan = Plan(SHOPS, [
            deed("go", [("shop", None, {"open": "shut"}), ("order", 0, {"new": "sent"})], [(0, "order", ["sent"])]),
            deed("pour", [("shop", None, {"open": "open"}), ("shop", None, {"open": "open"})], [], [],
                 [(0, "order", ("who", 1))]),
        ])
        play = ([("shop", "open", [N]), ("shop", "open", [])], [("do", "pour", [1, 0]), ("do", "go", [0, 2])])
        seeds = MANY
        self.assertIsNone(play_fault(plan, seeds, play))
        first = [("shop", "open", [N, N, N]), ("shop", "open", [N, N]), ("shop", "open", [N])]
        self.right(plan, seeds, play, first, from_more(plan, seeds, play, first))

    def test_what_bars_lies_in_what_bars(self):
        """One deletion may take along what another ask would not let by."""
        plan = Plan(THREE, [deed("go", [("box", None, {"a": "b"})], [(0, "cup", []), (None, "egg", [])])])
        play = ([("box", "a", [])], [("do", "go", [0])])
        egg = ("egg", "x", [])
        first = [("box", "a", [("cup", "c", [egg, egg]), ("cup", "c", [])]), ("box", "b", [("cup", "c", [egg])])]
        seeds = seeds_for(told(first), True)
        found = from_more(plan, seeds, play, first)
        self.right(plan, seeds, play, first, found)
        # The two cups go first, one with its eggs; then the egg that is left, its cup stays.
        self.assertEqual(found[1], [("delete", 1), ("delete", 2), ("delete", 7), ("do", "go", [0])])

    def test_limits(self):
        steps = [("do", "put", [0]) for _ in range(14)] + [("do", "send", [0, 1 + index]) for index in range(14)]
        play = (FIRST, [*steps, ("do", "close", [0])])
        first = [("shop", "open", [N] * 14)]
        self.right(PLAN, MANY, play, first, self.soon(from_more, PLAN, MANY, play, first))
        twice = self.soon(both_played, PLAN, MANY, play, play)
        self.assertEqual(ends(PLAN, MANY, twice), told(2 * as_lists(ends(PLAN, MANY, play))))


class Beside(Case):

    def test_is_local(self):
        plan = Plan(SHOPS, [
            deed("a", [("shop", None, {"open": "open"})], [(0, "order", ["new"])], [(0, "order", {"new": "sent"})]),
            deed("b", [("shop", None, {"open": "open"})], [(0, "order", ["new"]), (None, "order", ["new"])]),
            deed("c", [], [], [(None, "shop", {"open": "shut"})]),
            deed("d", [], [], [], [], [], [("shop", "open", None)]),
        ])
        self.assertEqual([is_local(plan, name) for name in "abcd"], [True, False, False, True])
        wrong = [("name", thing, BadName, thing) for thing in ("e", "", None, 5, ["a"], Sour(), True)]
        self.refuses(is_local, {"plan": plan, "name": "a"}, [*no_plans(BadPlan), *wrong])

    def test_both(self):
        found = both_played(PLAN, BEGINNING, PLAY, CLOSED)
        self.assertEqual(len(found[1]), 6)
        self.assertEqual(ends(PLAN, BEGINNING, found), told([("shop", "shut", [S]), ("shop", "shut", [])]))
        self.assertEqual(found[0], told(FIRST * 2))
        self.assertIsNone(both_played(PLAN, [("shop", "open", [], False)], PLAY, CLOSED))
        self.assertEqual(both_played(PLAN, [], ([], []), ([], [])), ((), []))

    def test_forms(self):
        self.same_in_all_forms(both_played, PLAN, BEGINNING, PLAY, CLOSED)
        self.new_each_time(both_played, PLAN, BEGINNING, PLAY, CLOSED)

    def test_wrong(self):
        good = {"plan": PLAN, "beginning": BEGINNING, "play": PLAY, "later": CLOSED}
        later = [("later", thing, BadLater, thing) for thing in NO_PLAYS]
        self.refuses(both_played, good, [*no_plans(BadPlan), *no_beginnings(BadBeginning), *no_plays(), *later])
        wide = Plan(SHOPS, [
            deed("near", [("shop", None, {"open": "open"})]),
            deed("far", [("shop", None, {"open": "open"})], [(None, "order", ["new"])]),
            deed("all", [], [], [(None, "order", {"new": "sent"})]),
        ])
        near, far, every = ("do", "near", [0]), ("do", "far", [0]), ("do", "all", [])
        for mine, theirs, name in (([near, far], [every], "far"), ([near], [near, every, far], "all"), ([every], [], "all"),
                                   ([near], [far], "far")):
            play, later = (FIRST, mine), (FIRST, theirs)
            for seeds in (BEGINNING, [("shop", "open", [], False)]):
                try:
                    both_played(wide, seeds, play, later)
                    self.fail()
                except NotLocal as caught:
                    self.assertEqual(caught.name, name)
        self.assertIsNotNone(both_played(wide, BEGINNING, (FIRST, [near]), (FIRST, [near])))
        # BadLater goes ahead of what is not local.
        bad = (FIRST, [("do", "nix", [])])
        self.raised(BadLater, bad, both_played, wide, BEGINNING, (FIRST, [far]), bad)

    def test_at_random(self):
        chance = chance_of(106)
        tried = 0
        while tried < 200:
            kinds = chance.choice(SOME_KINDS)
            plan = random_plan(chance, kinds, 4, asks=2, turns=2, news=3)
            if not any(is_local(plan, one[0]) for one in plan.all_deeds()):
                continue
            plan = Plan(kinds, [one for one in plan.all_deeds() if is_local(plan, one[0])])
            plays = [random_play(chance, plan, random_stand(chance, kinds, 4), 6, 0.3) for _ in range(2)]
            seeds = seeds_for(told([*told(plays[0][0]), *told(plays[1][0])]))
            found = both_played(plan, seeds, *plays)
            self.assertIsNone(play_fault(plan, seeds, found))
            self.assertEqual(found[0], told([*told(plays[0][0]), *told(plays[1][0])]))
            both = [*ends(plan, seeds, plays[0]), *ends(plan, seeds, plays[1])]
            self.assertEqual(ends(plan, seeds, found), told(both))
            self.assertEqual([step[:2] if step[0] == "do" else "delete" for step in found[1]],
                             [step[:2] if step[0] == "do" else "delete" for step in [*plays[0][1], *plays[1][1]]])
            tried += 1
