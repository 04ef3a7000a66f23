"""[13.1] to [13.6]: a play or a wall."""

from anywithin.errors import BadAsked, BadBeginning, BadPlan
from anywithin.least import least_ones
from anywithin.plans import Plan
from anywithin.plays import is_bringing, told_play
from anywithin.refusals import BadPatterns
from anywithin.rounds import least_leading
from anywithin.sprouts import sprouted
from anywithin.verdicts import judged, settled, verdict, verdicts
from anywithin.walls import is_barrier
from tests.helpers import (
    Case, Sour, as_lists, as_tuples, chance_of, no_beginnings, no_plans, no_stands, odd_things, plain_lies,
    random_beginning, random_stand, shuffled, told,
)
from tests.test_before import N, P, S, SHOPS, shop, shuffled_stands
from tests.test_walls import ASKED, OPEN, ORDER, PAY, PLAN, SEND, TOLD, WALL
from tests.trials import BIG_KINDS, SOME_KINDS, leading_within, plain_depths, random_plan

SENT = [("shop", "open", [("order", "sent", [])])]
PLAY = ((), [("do", "open", []), ("do", "order", [0]), ("do", "pay", [0, 1]), ("do", "send", [0, 1])])
FREE = Plan(SHOPS, [PAY, ("shut", [("shop", None, {"open": "shut"})], [], [], [], [], []), OPEN, ORDER, SEND])
WRONG = [*no_plans(BadPlan), *no_beginnings(BadBeginning), *no_stands(BadAsked, "asked", ASKED)]


class Main(Case):

    def test_example(self):
        self.assertEqual(verdict(PLAN, [], ASKED), ("never", TOLD))
        word, play = verdict(PLAN, [], SENT)
        self.assertEqual(word, "told")
        self.assertIs(is_bringing(PLAN, [], SENT, play), True)
        self.assertEqual(judged(PLAN, [], SENT, ("told", PLAY)), "told")
        word, play = verdict(FREE, [], ASKED)
        self.assertEqual(word, "told")
        self.assertIs(is_bringing(FREE, [], ASKED, play), True)
        plays, wall = settled(PLAN, [], [ASKED, [shop("shut", S)]])
        self.assertEqual(list(plays), [1])
        self.assertIs(is_bringing(PLAN, [], [shop("shut", S)], plays[1]), True)
        self.assertEqual(wall, TOLD)

    def test_nothing_is_asked(self):
        for plan in (PLAN, FREE, Plan(SHOPS, [])):
            for beginning in ([], [("shop", "open", [], True)]):
                self.assertEqual(verdict(plan, beginning, []), ("told", ((), [])))

    def test_at_once(self):
        beginning = [("shop", "shut", [("order", "paid", [], True)], False)]
        self.assertEqual(verdict(PLAN, beginning, ASKED), ("told", ((shop("shut", P),), [])))
        self.assertEqual(verdict(Plan(SHOPS, []), [], ASKED), ("never", [(shop("shut", P),)]))

    def test_forms(self):
        chance = chance_of(131)
        asked = [shop("shut", P, S), shop("open", N)]
        for plan in (PLAN, FREE):
            wanted = self.same_in_all_forms(verdict, plan, [], asked)
            self.assertEqual(verdict(plan=plan, beginning=[], asked=shuffled(chance, asked)), wanted)
            self.new_each_time(verdict, plan, [], asked)
            self.assertEqual(wanted[0], "told" if plan is FREE else "never")

    def test_wrong(self):
        self.refuses(verdict, {"plan": PLAN, "beginning": [], "asked": ASKED}, WRONG)
        self.refuses(judged, {"plan": PLAN, "beginning": [], "asked": ASKED, "thing": None}, WRONG)

    def test_told_plays_are_told(self):
        play = verdict(FREE, [], ASKED)[1]
        self.assertEqual(told_play(FREE, [], play), play)
        self.assertTrue(all(type(step) is tuple for step in play[1]))
        self.assertTrue(all(type(step[2]) is list for step in play[1] if step[0] == "do"))

    def test_just_one_at_random(self):
        """A play that is one and brings asked, or the least wall, and then nothing comes going forward."""
        chance = chance_of(132)
        words = {"told": 0, "never": 0}
        deleted = 0
        for _ in range(250):
            kinds = chance.choice(SOME_KINDS)
            plan = random_plan(chance, kinds, chance.randint(1, 4), asks=2, turns=2, news=2, most=3)
            asked = told(random_stand(chance, kinds, 3))
            if leading_within(plan, asked) is None:
                continue
            beginning = random_beginning(chance, kinds, 3)
            found = verdict(plan, beginning, asked)
            words[found[0]] += 1
            self.assertEqual(judged(plan, beginning, asked, found), found[0])
            self.assertEqual(verdict(plan, shuffled(chance, beginning), shuffled(chance, asked)), found)
            if found[0] == "never":
                self.assertEqual(found[1], least_leading(plan, asked))
                begun = sprouted(kinds, beginning, 1)
                self.assertFalse(any(plain_lies(asked, heap) for heap in plain_depths(plan, begun, 4)))
            else:
                deleted += any(step[0] == "delete" for step in found[1][1])
        self.assertGreater(min(words.values()), 30)
        self.assertGreater(deleted, 0)

    def test_deletions_and_what_lasts(self):
        """What bars a deed is deleted ahead of it, and only that."""
        kinds = SOME_KINDS[1]
        plan = Plan(kinds, [
            ("lay", [("box", None, {"a": "a"})], [], [], [], [], [("egg", "x", ("who", 0)), ("fig", "x", ("who", 0))]),
            ("turn", [("box", None, {"a": "a"}), ("egg", 0, {"x": "y"})], [(None, "egg", ["y"])], [], [], [], []),
        ])
        beginning = [("box", "a", [], True)]
        asked = [("box", "a", [("egg", "y", []), ("egg", "y", []), ("fig", "x", []), ("fig", "x", []), ("fig", "x", [])])]
        word, play = verdict(plan, beginning, asked)
        self.assertEqual(word, "told")
        self.assertIs(is_bringing(plan, beginning, asked, play), True)

    def test_limits(self):
        chance = chance_of(133)
        words = {"told": 0, "never": 0}
        while min(words.values()) < 12:
            kinds = chance.choice(BIG_KINDS)
            plan = random_plan(chance, kinds, 5, asks=2, turns=2, pours=1, moves=2, news=2, most=3)
            asked = told(random_stand(chance, kinds, 4))
            if leading_within(plan, asked) is not None:
                beginning = random_beginning(chance, kinds, 4)
                found = self.soon(verdict, plan, beginning, asked)
                self.assertEqual(self.soon(judged, plan, beginning, asked, found), found[0])
                words[found[0]] += 1


class Judged(Case):

    def test_told(self):
        for thing in (("told", PLAY), ["told", PLAY], as_lists(("told", PLAY)), as_tuples(["told", PLAY])):
            self.assertEqual(judged(plan=PLAN, beginning=[], asked=SENT, thing=thing), "told")
        self.assertIsNone(judged(PLAN, [], ASKED, ("told", PLAY)))
        self.assertIsNone(judged(PLAN, [], SENT, ("told", ((), PLAY[1][:3]))))
        self.assertIsNone(judged(PLAN, [], SENT, ("told", (SENT, []))))
        self.assertIsNone(judged(PLAN, [], SENT, ("never", PLAY)))
        self.assertIsNone(judged(PLAN, [], SENT, ("told", PLAY, 1)))

    def test_never(self):
        chance = chance_of(134)
        for thing in (("never", WALL), ["never", WALL[::-1]], ("never", as_tuples(TOLD)),
                      ("never", shuffled_stands(chance, WALL)), ("never", [*WALL, [shop("shut", P, P)]])):
            self.assertEqual(judged(PLAN, [], ASKED, thing), "never")
        for shown in (WALL[:1], WALL[1:], [], [*WALL, WALL[0]], [[]], None, 5):
            self.assertIsNone(judged(PLAN, [], ASKED, ("never", shown)))
        self.assertIsNone(judged(PLAN, [("shop", "shut", [("order", "new", [], True)], True)], ASKED, ("never", WALL)))
        self.assertIsNone(judged(PLAN, [], ASKED, ("told", WALL)))

    def test_any_object(self):
        for thing in odd_things():
            self.assertIsNone(judged(PLAN, [], ASKED, thing))
            self.assertIsNone(judged(PLAN, [], ASKED, (thing, WALL)))
            self.assertIsNone(judged(PLAN, [], ASKED, ("never", thing)))
            self.assertIsNone(judged(PLAN, [], ASKED, ("told", thing)))
            self.assertIsNone(judged(PLAN, [], ASKED, {"never": thing}))

    def test_long_plays(self):
        beginning = [("shop", "open", [], True)]
        steps = [step for number in range(100) for step in (
            ("do", "order", [0]), ("do", "pay", [0, number + 1]), ("do", "send", [0, number + 1]))]
        # Of each hundred orders all but the last few are deleted again.
        short = [step for number in range(75) for step in (
            ("do", "order", [0]), ("do", "pay", [0, number + 1]), ("do", "send", [0, number + 1]), ("delete", number + 1))]
        last = [("do", "shut", [0])]
        for way in ([*steps[:-1], ("do", "send", [0, 100])], [*short[:-1], *last]):
            self.assertEqual(len(way), 300)
            asked = SENT if way[-1] != last[0] else [shop("shut", S)]
            self.assertEqual(self.soon(judged, PLAN, beginning, asked, ("told", (SHOP, way))), "told")
            self.assertIsNone(self.soon(judged, PLAN, beginning, ASKED, ("told", (SHOP, way))))


SHOP = [("shop", "open", [])]


class Several(Case):

    PATTERNS = [ASKED, SENT, [], [shop("shut", N)], [shop("shut", S, S)], ASKED]

    def test_verdicts(self):
        found = verdicts(PLAN, [], self.PATTERNS)
        self.assertEqual(found, [verdict(PLAN, [], pattern) for pattern in self.PATTERNS])
        self.assertEqual([word for word, _ in found], ["never", "told", "told", "never", "told", "never"])
        self.assertEqual(verdicts(PLAN, [], []), [])
        self.same_in_all_forms(verdicts, PLAN, [], self.PATTERNS)
        self.new_each_time(verdicts, PLAN, [], self.PATTERNS)

    def test_settled(self):
        plays, wall = settled(PLAN, [], self.PATTERNS)
        self.assertEqual(list(plays), [1, 2, 4])
        for index, play in plays.items():
            self.assertIs(is_bringing(PLAN, [], self.PATTERNS[index], play), True)
        self.assertEqual(wall, TOLD)
        self.assertEqual(settled(PLAN, [], []), ({}, []))
        self.assertEqual(settled(PLAN, [], [[], SENT])[1], [])
        self.assertIs(type(settled(PLAN, [], [])), tuple)
        self.same_in_all_forms(settled, PLAN, [], self.PATTERNS)
        self.new_each_time(settled, PLAN, [], self.PATTERNS)

    def test_wrong(self):
        patterns = [("patterns", thing, BadPatterns, index) for thing, index in (
            (None, 0), ("", 0), ({}, 0), (5, 0), (Sour(), 0), ([None], 0), ([ASKED, SENT, [shop("nix")]], 2),
            ([[], 5], 1), (ASKED, 0), ([[Sour()]], 0), ([[[]]], 0))]
        for call in (verdicts, settled):
            self.refuses(call, {"plan": PLAN, "beginning": [], "patterns": [ASKED]},
                         [*no_plans(BadPlan), *no_beginnings(BadBeginning), *patterns])

    def test_at_random(self):
        chance = chance_of(135)
        tried = 0
        while tried < 40:
            kinds = chance.choice(SOME_KINDS)
            plan = random_plan(chance, kinds, 3, asks=2)
            patterns = [told(random_stand(chance, kinds, 3)) for _ in range(4)]
            if None in [leading_within(plan, pattern) for pattern in patterns]:
                continue
            tried += 1
            beginning = random_beginning(chance, kinds, 2)
            found = verdicts(plan, beginning, patterns)
            self.assertEqual(found, [verdict(plan, beginning, pattern) for pattern in patterns])
            plays, wall = settled(plan, beginning, patterns)
            self.keys_rise(plays)
            self.assertEqual(wall, least_ones(kinds, [heap for word, heaps in found if word == "never" for heap in heaps]))
            for index, pattern in enumerate(patterns):
                self.assertNotEqual(index in plays, is_barrier(plan, beginning, pattern, wall))
                if index in plays:
                    self.assertIs(is_bringing(plan, beginning, pattern, plays[index]), True)

    def test_asked_again_and_again(self):
        """What is told of one beginning and pattern does not hang on what was asked ahead."""
        fresh = Plan(SHOPS, PLAN.all_deeds())
        wanted = [verdict(Plan(SHOPS, PLAN.all_deeds()), [], pattern) for pattern in self.PATTERNS]
        for order in (range(6), range(5, -1, -1)):
            for index in order:
                verdict(fresh, [("shop", "open", [("order", "paid", [], True)], True)], self.PATTERNS[index])
                self.assertEqual(verdict(fresh, [], self.PATTERNS[index]), wanted[index])

    def test_without_asks(self):
        """If no deed asks, no deletion is needed."""
        chance = chance_of(136)
        for _ in range(80):
            kinds = chance.choice(SOME_KINDS)
            plan = random_plan(chance, kinds, 3, asks=0)
            asked = told(random_stand(chance, kinds, 3))
            if leading_within(plan, asked) is not None:
                word, shown = verdict(plan, random_beginning(chance, kinds, 3), asked)
                self.assertTrue(word == "never" or all(step[0] == "do" for step in shown[1]))
