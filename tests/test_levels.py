"""[19.1] to [19.3], [19.7]: plans, stands, beginnings and plays without a kind."""

from anywithin.beginnings import begins
from anywithin.errors import BadBeginning, BadKind, BadPlan, BadPlay, BadStand
from anywithin.kinds import Kinds
from anywithin.levels import beginning_without_kind, play_without_kind, stand_without_kind, without_kind
from anywithin.plans import Plan
from anywithin.plays import deeds_of, ends, play_fault
from anywithin.refusals import NotBare
from anywithin.verdicts import verdict
from anywithin.walls import is_barrier
from tests.helpers import (
    SHOPS, Case, Sour, as_lists, chance_of, no_beginnings, no_plans, no_stands, random_beginning, random_stand,
    shuffled, told, told_seeds,
)
from tests.test_lives import PLAN as BARE
from tests.trials import BIG_KINDS, leading_within, random_plan, random_play, seeds_for

KINDS = Kinds([("shop", "", ["open", "shut"], False), ("order", "shop", ["new", "sent"], False),
               ("note", "shop", ["here"], False)])
CLOSE = ("close", [("shop", None, {"open": "shut"})], [(0, "order", ["sent"]), (0, "note", [])], [], [], [], [])
PLAN = Plan(KINDS, [CLOSE, *BARE.all_deeds()[1:]])
N, S, NOTE = ("order", "new", []), ("order", "sent", []), ("note", "here", [])
BEGINNING = [("shop", "open", [("order", "new", [], True), ("note", "here", [], True)], True)]
FIRST = [("shop", "open", [NOTE, N]), ("shop", "open", [NOTE])]
# Told: the shop with a note (0, 1); that with a note and an order (2, 3, 4).
PLAY = (FIRST, [("do", "send", [2, 4]), ("delete", 3), ("do", "put", [0]), ("do", "close", [2]), ("delete", 5)])

# Rows of who, asks, turns, pours, moves and news of more than one kind.
WIDE_KINDS = Kinds([("bin", "", ["p", "q"], False), ("cup", "bin", ["a", "b"], False),
                    ("jar", "bin", ["c"], False), ("van", "", ["v"], False)])
WIDE = (
    "wide",
    [("bin", None, {"p": "q"}), ("cup", 0, {"a": "b"}), ("van", None, {"v": "v"}), ("jar", 0, {"c": "c"}),
     ("bin", None, {"p": "p"}), ("cup", 4, {"b": "b"})],
    [(0, "cup", ["a"]), (4, "jar", []), (None, "van", ["v"]), (None, "cup", [])],
    [(4, "cup", {"a": None}), (None, "jar", {"c": None}), (None, "bin", {"q": "p"})],
    [(0, "cup", ("who", 4)), (4, "jar", ("new", 2)), (4, "cup", ("new", 1))],
    [(1, ("who", 4)), (3, ("new", 2)), (5, ("new", 1))],
    [("van", "v", None), ("bin", "q", None), ("bin", "p", None), ("cup", "a", ("new", 2)), ("jar", "c", ("who", 4)),
     ("cup", "b", ("who", 0))],
)
WIDE_PLAN = Plan(WIDE_KINDS, [WIDE])

TWO_LEVELS = [
    KINDS, WIDE_KINDS,
    Kinds([("bin", "", ["p", "q", "r"], True), ("cup", "bin", ["a", "b"], False), ("jar", "bin", ["a"], True),
           ("pan", "bin", ["b", "c", "d"], False)]),
    Kinds([("bin", "", ["p", "q"], False), ("van", "", ["v", "w"], True), ("cup", "bin", ["a", "b"], False),
           ("jar", "van", ["a", "c"], False)]),
]
NO_PLAYS = [None, 5, (FIRST, [5]), ([], PLAY[1]), ([("shop", "shut", [])], []), (FIRST, PLAY[1][3:]), Sour()]
NO_KINDS = ["", "nix", None, 5, [], Sour(), b"note", "here"]


def bad_kinds():
    return [*[("kind", thing, BadKind, thing) for thing in NO_KINDS], ("kind", "shop", NotBare, "shop")]


def bare_kinds(kinds):
    return [kind for kind in kinds.all_kinds() if not kinds.parts(kind)]


def plain_without(heap, kind):
    """A stand, or a beginning, without what is of this kind, made plainly."""
    return tuple(sorted((*row[:2], plain_without(row[2], kind), *row[3:]) for row in heap if row[0] != kind))


class WithoutKind(Case):

    def test_example(self):
        self.assertEqual(without_kind(PLAN, "note"), BARE)
        self.assertEqual(without_kind(PLAN, "note").kinds(), SHOPS)
        asked = [("shop", "shut", [("order", "new", [])])]
        wall = [(("shop", "shut", (("order", "new", ()),)),)]
        begun = [("shop", "open", [("order", "new", [], True)], True)]
        self.assertEqual(verdict(without_kind(PLAN, "note"), begun, asked), ("never", wall))
        self.assertEqual(verdict(PLAN, begun, asked)[0], "never")
        self.assertIs(is_barrier(PLAN, begun, asked, wall), True)

    def test_all_that_a_deed_has(self):
        self.assertEqual(without_kind(WIDE_PLAN, "cup").deed("wide"), (
            "wide",
            (("bin", None, {"p": "q"}), ("van", None, {"v": "v"}), ("jar", 0, {"c": "c"}), ("bin", None, {"p": "p"})),
            ((3, "jar", ()), (None, "van", ("v",))),
            ((None, "jar", {"c": None}), (None, "bin", {"q": "p"})),
            ((3, "jar", ("new", 2)),),
            ((2, ("new", 2)),),
            (("van", "v", None), ("bin", "q", None), ("bin", "p", None), ("jar", "c", ("who", 3))),
        ))
        self.assertEqual(without_kind(WIDE_PLAN, "van").deed("wide"), (
            "wide",
            (("bin", None, {"p": "q"}), ("cup", 0, {"a": "b"}), ("jar", 0, {"c": "c"}), ("bin", None, {"p": "p"}),
             ("cup", 3, {"b": "b"})),
            ((0, "cup", ("a",)), (3, "jar", ()), (None, "cup", ())),
            ((3, "cup", {"a": None}), (None, "jar", {"c": None}), (None, "bin", {"q": "p"})),
            ((0, "cup", ("who", 3)), (3, "jar", ("new", 1)), (3, "cup", ("new", 0))),
            ((1, ("who", 3)), (2, ("new", 1)), (4, ("new", 0))),
            (("bin", "q", None), ("bin", "p", None), ("cup", "a", ("new", 1)), ("jar", "c", ("who", 3)), ("cup", "b", ("who", 0))),
        ))

    def test_deeds_that_do_nothing_stay(self):
        kinds = Kinds([("van", "", ["v", "w"], True)])
        plan = Plan(kinds, [("a", [("van", None, {"v": "w"})], [], [], [], [], []), ("b", [], [], [], [], [], [("van", "v", None)])])
        found = without_kind(plan, "van")
        self.assertEqual(found, Plan(Kinds([]), [("a", [], [], [], [], [], []), ("b", [], [], [], [], [], [])]))
        first = [("van", "v", []), ("van", "v", [])]
        play = (first, [("do", "a", [1]), ("do", "b", []), ("do", "a", [2])])
        self.assertEqual(play_without_kind(plan, [("van", "v", [], True)], play, "van"), (
            (), [("do", "a", []), ("do", "b", []), ("do", "a", [])]))

    def test_wrong(self):
        self.refuses(without_kind, {"plan": PLAN, "kind": "note"}, [*no_plans(BadPlan), *bad_kinds()])
        self.refuses(stand_without_kind, {"plan": PLAN, "stand": FIRST, "kind": "note"},
                     [*no_plans(BadPlan), *no_stands(BadStand, "stand", FIRST), *bad_kinds()])
        self.refuses(beginning_without_kind, {"plan": PLAN, "beginning": BEGINNING, "kind": "note"},
                     [*no_plans(BadPlan), *no_beginnings(BadBeginning), *bad_kinds()])
        plays = [("play", thing, BadPlay, thing) for thing in NO_PLAYS]
        self.refuses(play_without_kind, {"plan": PLAN, "beginning": BEGINNING, "play": PLAY, "kind": "note"},
                     [*no_plans(BadPlan), *no_beginnings(BadBeginning), *plays, *bad_kinds()])

    def test_stands_and_beginnings(self):
        chance = chance_of(192)
        self.assertEqual(stand_without_kind(PLAN, FIRST, "note"), (("shop", "open", ()), ("shop", "open", (("order", "new", ()),))))
        self.assertEqual(beginning_without_kind(PLAN, BEGINNING, "note"), (("shop", "open", (("order", "new", (), True),), True),))
        for _ in range(80):
            kinds = chance.choice(TWO_LEVELS)
            plan = Plan(kinds, [])
            kind = chance.choice(bare_kinds(kinds))
            stand, begun = random_stand(chance, kinds, 8), random_beginning(chance, kinds, 6)
            self.assertEqual(stand_without_kind(plan, stand, kind), plain_without(stand, kind))
            self.assertEqual(beginning_without_kind(plan, begun, kind), plain_without(begun, kind))
            self.assertEqual(beginning_without_kind(plan, begun, kind), told_seeds(plain_without(begun, kind)))
            for call, thing in ((stand_without_kind, stand), (beginning_without_kind, begun)):
                self.assertEqual(call(plan, shuffled(chance, thing), kind), call(plan, thing, kind))

    def test_forms(self):
        for call, thing in ((stand_without_kind, FIRST), (beginning_without_kind, BEGINNING)):
            self.same_in_all_forms(call, PLAN, thing, "note")
            self.new_each_time(call, PLAN, thing, "note")
        self.assertEqual(without_kind(plan=PLAN, kind="note"), BARE)
        self.assertEqual(stand_without_kind(plan=PLAN, stand=[], kind="note"), ())
        self.assertEqual(beginning_without_kind(plan=PLAN, beginning=[], kind="note"), ())
        self.same_in_all_forms(play_without_kind, PLAN, BEGINNING, PLAY, "note")
        self.new_each_time(play_without_kind, PLAN, BEGINNING, PLAY, "note")

    def test_orders(self):
        """Of two kinds it never matters which is left out first."""
        chance = chance_of(193)
        for _ in range(60):
            kinds = chance.choice([kinds for kinds in TWO_LEVELS if len(bare_kinds(kinds)) > 1])
            plan = random_plan(chance, kinds, 3, asks=2, turns=2, pours=2, moves=2, news=2, most=3)
            one, other = chance.sample(bare_kinds(kinds), 2)
            self.assertEqual(without_kind(without_kind(plan, one), other), without_kind(without_kind(plan, other), one))
            stand, begun = random_stand(chance, kinds, 6), random_beginning(chance, kinds, 6)
            for call, thing in ((stand_without_kind, stand), (beginning_without_kind, begun)):
                mine = call(without_kind(plan, one), call(plan, thing, one), other)
                self.assertEqual(mine, call(without_kind(plan, other), call(plan, thing, other), one))


class Plays(Case):

    def test_by_hand(self):
        self.assertEqual(play_without_kind(PLAN, BEGINNING, PLAY, "note"), (
            (("shop", "open", ()), ("shop", "open", (("order", "new", ()),))),
            [("do", "send", [1, 2]), ("do", "put", [0]), ("do", "close", [1]), ("delete", 3)]))

    def test_numbers_as_they_are_given_then(self):
        """A record with more of the kind in it comes behind, and may come ahead without; alike ones keep their order."""
        n = ("order", "new", ())
        # Told: the shop with two notes (0, 1, 2), with a note and an order (3, 4, 5), with an order (6, 7).
        first = [("shop", "open", [NOTE, NOTE]), ("shop", "open", [NOTE, N]), ("shop", "open", [N])]
        for one, other in ((3, 6), (6, 3)):
            steps = [("do", "put", [one]), ("do", "put", [0]), ("do", "send", [other, other + (2 if other == 3 else 1)]),
                     ("delete", 4), ("delete", 8)]
            led = {0: 0, 3: 1, 5: 2, 6: 3, 7: 4, 8: 5, 9: 6}
            found = play_without_kind(PLAN, BEGINNING, (first, steps), "note")
            self.assertEqual(found[0], (("shop", "open", ()), ("shop", "open", (n,)), ("shop", "open", (n,))))
            self.assertEqual(found[1], [
                ("do", "put", [led[one]]), ("do", "put", [0]), ("do", "send", [led[number] for number in steps[2][2]]),
                ("delete", 5)])

    def right(self, plan, seeds, play, kind):
        """It is a play of the plan without it, by the same deeds, whose end is play's without the kind."""
        less, fewer = without_kind(plan, kind), beginning_without_kind(plan, seeds, kind)
        found = play_without_kind(plan, seeds, play, kind)
        self.assertIsNone(play_fault(less, fewer, found))
        self.assertEqual(found[0], stand_without_kind(plan, play[0], kind))
        self.assertEqual(ends(less, fewer, found), stand_without_kind(plan, ends(plan, seeds, play), kind))
        self.assertEqual(deeds_of(less, fewer, found), deeds_of(plan, seeds, play))
        self.assertTrue(begins(less.kinds(), fewer, found[0]))
        return found

    def test_at_random(self):
        chance = chance_of(194)
        shorter = 0
        for _ in range(300):
            kinds = chance.choice(TWO_LEVELS)
            plan = random_plan(chance, kinds, 4, asks=1, turns=2, pours=2, moves=2, news=3, most=3)
            first = random_stand(chance, kinds, 6)
            play = random_play(chance, plan, shuffled(chance, first), 8, 0.3)
            for kind in bare_kinds(kinds):
                found = self.right(plan, seeds_for(first, True), play, kind)
                shorter += len(found[1]) < len(play[1])
        self.assertGreater(shorter, 50)

    def test_walls_without_it_are_walls(self):
        """What has none of the kind and never comes without it never comes."""
        chance = chance_of(195)
        barred = 0
        while barred < 25:
            kinds = chance.choice(TWO_LEVELS)
            plan = random_plan(chance, kinds, 3, asks=2, turns=1, news=1, most=2)
            kind = chance.choice(bare_kinds(kinds))
            less = without_kind(plan, kind)
            asked = plain_without(random_stand(chance, kinds, 3), kind)
            if leading_within(less, asked) is None or leading_within(plan, asked) is None:
                continue
            begun = random_beginning(chance, kinds, 3)
            word, _ = verdict(less, beginning_without_kind(plan, begun, kind), asked)
            if word == "never":
                barred += 1
                self.assertEqual(verdict(plan, begun, asked)[0], "never")

    def test_kinds_that_no_deed_looks_at(self):
        """Where no deed needs or asks of the kind the verdicts are alike."""
        chance = chance_of(196)
        words = {"told": 0, "never": 0}
        while min(words.values()) < 15:
            plan = random_plan(chance, SHOPS, 3, asks=2, turns=1, news=1, most=2)
            more = Plan(KINDS, plan.all_deeds())
            asked = told(random_stand(chance, SHOPS, 3))
            if leading_within(plan, asked) is None:
                continue
            self.assertEqual(without_kind(more, "note"), plan)
            begun = random_beginning(chance, KINDS, 4)
            word = verdict(plan, beginning_without_kind(more, begun, "note"), asked)[0]
            self.assertEqual(verdict(more, begun, asked)[0], word)
            words[word] += 1

    def test_limits(self):
        chance = chance_of(197)
        kinds = Kinds([(name, above, list("abc"), False) for name, above in (("ka", ""), ("kb", "ka"), ("kc", "ka"), ("kd", ""))])
        for _ in range(6):
            plan = random_plan(chance, kinds, 5, asks=1, turns=2, pours=1, moves=2, news=2, most=3)
            first = random_stand(chance, kinds, 12)
            play = random_play(chance, plan, first, 40, 0.1)
            for kind in ("kb", "kc", "kd"):
                found = self.soon(play_without_kind, plan, seeds_for(told(first), True), as_lists(play), kind)
                self.right(plan, seeds_for(told(first), True), play, kind)
                self.assertLessEqual(len(found[1]), len(play[1]))
        for kinds in BIG_KINDS:
            plan = random_plan(chance, kinds, 5, asks=2, turns=2, pours=1, moves=2, news=2, most=3)
            for kind in bare_kinds(kinds):
                self.assertEqual(len(self.soon(without_kind, plan, kind).all_deeds()), 5)
