"""[15.1], [15.5], [15.6]: any of many, and both at once."""

from anywithin.anyof import any_judged, any_verdict, both_verdict
from anywithin.errors import BadAsked, BadBeginning, BadMate, BadPlan, BadStands
from anywithin.kinds import Kinds
from anywithin.least import is_above, least_ones
from anywithin.overlays import overlays
from anywithin.plans import Plan
from anywithin.plays import ends, is_bringing, is_play
from anywithin.rounds import least_leading
from anywithin.sprouts import sprouted
from anywithin.verdicts import verdict
from anywithin.walls import is_barrier
from tests.helpers import (
    Case, Sour, as_lists, as_tuples, chance_of, no_beginnings, no_plans, no_stands, odd_things, plain_lies,
    random_beginning, random_stand, shuffled, told,
)
from tests.trials import BIG_KINDS, SOME_KINDS, leading_within, plain_depths, random_plan

SHOPS = Kinds([("shop", "", ["open"], False), ("order", "shop", ["new", "paid"], False)])
TAKE = ("take", [("shop", None, {"open": "open"})], [(0, "order", ["paid"])], [], [], [],
        [("order", "new", ("who", 0))])
PAY = ("pay", [("shop", None, {"open": "open"}), ("order", 0, {"new": "paid"})], [], [], [], [], [])
PLAN = Plan(SHOPS, [TAKE, PAY])
BEGINNING = [("shop", "open", [], True)]
N, P = ("order", "new", ()), ("order", "paid", ())
NEW_TWICE = (("shop", "open", (N, N)),)
PLAY = ([("shop", "open", [])], [("do", "take", [0]), ("do", "pay", [0, 1])])


def shop(*parts):
    return ("shop", "open", tuple(parts))


NEVER = [[shop(N, N)], [shop(N, N, P)]]
MIXED = [[shop(N, N)], [shop(P)]]
WRONG = [*no_plans(BadPlan), *no_beginnings(BadBeginning)]


class AnyOf(Case):

    def test_told_and_never(self):
        self.assertEqual(any_verdict(PLAN, BEGINNING, NEVER), ("never", [NEW_TWICE]))
        word, play = any_verdict(PLAN, BEGINNING, MIXED)
        self.assertEqual(word, "told")
        self.assertIs(is_bringing(PLAN, BEGINNING, MIXED[1], play), True)
        self.assertEqual(any_verdict(PLAN, BEGINNING, []), ("never", []))
        self.assertEqual(any_verdict(PLAN, BEGINNING, [NEW_TWICE, []]), ("told", ((), [])))

    def test_forms(self):
        chance = chance_of(151)
        for stands in (NEVER, MIXED):
            wanted = self.same_in_all_forms(any_verdict, PLAN, BEGINNING, stands)
            mixed = [shuffled(chance, stand) for stand in stands]
            self.assertEqual(any_verdict(plan=PLAN, beginning=BEGINNING, stands=mixed), wanted)
            self.new_each_time(any_verdict, PLAN, BEGINNING, stands)

    def test_wrong(self):
        stands = [("stands", thing, BadStands, index) for thing, index in (
            (None, 0), ("", 0), ({}, 0), (5, 0), (Sour(), 0), ([None], 0), ([*NEVER, [shop(5)]], 2), (NEVER[0], 0),
            ([[], 5], 1), ([[Sour()]], 0))]
        self.refuses(any_verdict, {"plan": PLAN, "beginning": [], "stands": NEVER}, [*WRONG, *stands])
        self.refuses(any_judged, {"plan": PLAN, "beginning": [], "stands": NEVER, "thing": None}, [*WRONG, *stands])

    def test_judged_told(self):
        for thing in (("told", PLAY), ["told", PLAY], as_lists(("told", PLAY)), as_tuples(("told", PLAY))):
            self.assertEqual(any_judged(plan=PLAN, beginning=BEGINNING, stands=MIXED, thing=thing), "told")
            self.assertIsNone(any_judged(PLAN, BEGINNING, NEVER, thing))
            self.assertIsNone(any_judged(PLAN, [], MIXED, thing))
            self.assertIsNone(any_judged(PLAN, BEGINNING, [], thing))
        self.assertIsNone(any_judged(PLAN, BEGINNING, MIXED, ("told", (PLAY[0], PLAY[1][:1]))))
        self.assertIsNone(any_judged(PLAN, BEGINNING, MIXED, ("never", PLAY)))

    def test_judged_never(self):
        for thing in (("never", [NEW_TWICE]), ["never", NEVER[:1]], ("never", as_tuples(NEVER))):
            self.assertEqual(any_judged(PLAN, BEGINNING, NEVER, thing), "never")
            self.assertIsNone(any_judged(PLAN, BEGINNING, MIXED, thing))
        for shown in ([], [*NEVER, NEVER[0]], NEVER[1:], None, [[]], 5, [[shop(N, N, N)]]):
            self.assertIsNone(any_judged(PLAN, BEGINNING, NEVER, ("never", shown)))
        begun = [("shop", "open", [("order", "new", [], True)], False)]
        self.assertIsNone(any_judged(PLAN, begun, NEVER, ("never", NEVER)))

    def test_judged_of_none(self):
        """Of no stands each list of unlike ones that is closed one deed back, and none of which begins, will do."""
        for shown, wanted in (([], "never"), ([NEW_TWICE], "never"), (NEVER, "never"), ([NEW_TWICE, NEW_TWICE], None),
                              ([[]], None), ([[shop(P)]], None), ([[shop()]], None), ([[shop(N, N, N)]], "never"),
                              (None, None)):
            self.assertEqual(any_judged(PLAN, BEGINNING, [], ("never", shown)), wanted)

    def test_judged_any_object(self):
        for thing in odd_things():
            for stands in (NEVER, []):
                self.assertIsNone(any_judged(PLAN, BEGINNING, stands, thing))
                self.assertIsNone(any_judged(PLAN, BEGINNING, stands, (thing, [])))
                self.assertIsNone(any_judged(PLAN, BEGINNING, stands, ("told", thing)))
                if not isinstance(thing, (list, tuple)) or stands:
                    self.assertIsNone(any_judged(PLAN, BEGINNING, stands, ("never", thing)))

    def test_one_is_right(self):
        chance = chance_of(152)
        words = {"told": 0, "never": 0}
        while min(words.values()) < 30:
            kinds = chance.choice(SOME_KINDS)
            plan = random_plan(chance, kinds, chance.randint(1, 4), asks=2, turns=2, news=2, most=3)
            stands = [told(random_stand(chance, kinds, 3)) for _ in range(chance.randint(1, 4))]
            if None in [leading_within(plan, stand) for stand in stands]:
                continue
            beginning = random_beginning(chance, kinds, 2)
            word, shown = any_verdict(plan, beginning, stands)
            words[word] += 1
            self.assertEqual(any_judged(plan, beginning, stands, (word, shown)), word)
            single = [verdict(plan, beginning, stand)[0] for stand in stands]
            self.assertEqual(word, "told" if "told" in single else "never")
            if word == "told":
                self.assertIs(is_play(plan, beginning, shown), True)
                self.assertTrue(any(plain_lies(stand, ends(plan, beginning, shown)) for stand in stands))
                continue
            walls = [least_leading(plan, stand) for stand in stands]
            self.assertEqual(shown, least_ones(kinds, [heap for wall in walls for heap in wall]))
            self.assertTrue(all(is_barrier(plan, beginning, stand, shown) for stand in stands))
            for wall in walls:
                self.assertTrue(all(is_above(kinds, shown, heap) for heap in wall))

    def test_limits(self):
        chance = chance_of(153)
        tried = 0
        while tried < 12:
            kinds = chance.choice(BIG_KINDS)
            plan = random_plan(chance, kinds, 3, asks=2, turns=2, pours=1, moves=2, news=1, most=3)
            stands = [told(random_stand(chance, kinds, 4)) for _ in range(8)]
            if None in [leading_within(plan, stand, 2) for stand in stands]:
                continue
            tried += 1
            beginning = random_beginning(chance, kinds, 2)
            found = self.soon(any_verdict, plan, beginning, stands)
            self.assertEqual(self.soon(any_judged, plan, beginning, stands, found), found[0])


class Both(Case):

    def test_both(self):
        self.assertEqual(both_verdict(PLAN, BEGINNING, NEW_TWICE, [shop(P)])[0], "never")
        for stand in ([shop()], [shop(N)], [shop(P, P), shop()], NEW_TWICE):
            word, wall = both_verdict(PLAN, BEGINNING, NEW_TWICE, stand)
            self.assertEqual(word, "never")
            self.assertEqual(both_verdict(PLAN, BEGINNING, stand, NEW_TWICE), (word, wall))
            self.assertTrue(all(plain_lies(NEW_TWICE, heap) for heap in wall))
        self.assertEqual(both_verdict(PLAN, BEGINNING, NEW_TWICE, []), ("never", [NEW_TWICE]))
        word, play = both_verdict(PLAN, BEGINNING, [shop(N)], [shop(P)])
        self.assertEqual(word, "told")
        for asked in ([shop(N)], [shop(P)]):
            self.assertIs(is_bringing(PLAN, BEGINNING, asked, play), True)
        self.assertEqual(both_verdict(PLAN, BEGINNING, [], []), ("told", ((), [])))

    def test_each_alone_but_not_both(self):
        plan = Plan(SHOPS, [("turn", [("shop", None, {"open": "open"}), ("order", 0, {"new": "paid"})], [], [], [], [], [])])
        beginning = [("shop", "open", [("order", "new", [], False)], False)]
        asked, mate = [shop(N)], [shop(P)]
        self.assertEqual([verdict(plan, beginning, one)[0] for one in (asked, mate)], ["told", "told"])
        word, wall = both_verdict(plan, beginning, asked, mate)
        self.assertEqual(word, "never")
        for both in overlays(SHOPS, asked, mate):
            self.assertIs(is_barrier(plan, beginning, both, wall), True)
        for one in (asked, mate):
            self.assertIs(is_barrier(plan, beginning, one, wall), False)

    def test_forms_and_wrong(self):
        self.same_in_all_forms(both_verdict, PLAN, BEGINNING, [shop(N)], [shop(P)])
        self.new_each_time(both_verdict, PLAN, BEGINNING, [shop(N)], [shop(P)])
        self.refuses(both_verdict, {"plan": PLAN, "beginning": BEGINNING, "asked": [shop(N)], "mate": [shop(P)]},
                     [*WRONG, *no_stands(BadAsked, "asked", [shop(N)]), *no_stands(BadMate, "mate", [shop(N)])])

    def test_at_random(self):
        """Both come at once just if some stand that comes has both in it."""
        chance = chance_of(154)
        words = {"told": 0, "never": 0}
        while min(words.values()) < 15:
            kinds = chance.choice(SOME_KINDS)
            plan = random_plan(chance, kinds, 3, asks=2)
            asked, mate = (told(random_stand(chance, kinds, 2)) for _ in range(2))
            over = overlays(kinds, asked, mate)
            if None in [leading_within(plan, heap) for heap in over]:
                continue
            beginning = random_beginning(chance, kinds, 2)
            word, shown = both_verdict(plan, beginning, asked, mate)
            words[word] += 1
            self.assertEqual(any_judged(plan, beginning, over, (word, shown)), word)
            if word == "told":
                end = ends(plan, beginning, shown)
                self.assertTrue(plain_lies(asked, end) and plain_lies(mate, end))
            else:
                came = plain_depths(plan, sprouted(kinds, beginning, 1), 4)
                self.assertFalse(any(plain_lies(asked, heap) and plain_lies(mate, heap) for heap in came))
