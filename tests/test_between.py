"""[19.4] to [19.7]: a level between."""

from anywithin.between import beginning_under, plan_under, play_under, play_within, stand_under
from anywithin.errors import BadBeginning, BadMark, BadNumber, BadPlan, BadPlay, BadStand
from anywithin.kinds import Kinds
from anywithin.plans import Plan
from anywithin.plays import ends, play_fault, told_play
from anywithin.refusals import BadTop
from anywithin.rounds import fewest_deeds
from anywithin.verdicts import judged, verdict
from tests.helpers import (
    GREAT, SHOPS, Case, Sour, as_tuples, chance_of, no_beginnings, no_plans, no_stands, random_beginning,
    random_stand, shuffled, size, told, told_seeds,
)
from tests.test_levels import TWO_LEVELS, WIDE, WIDE_KINDS
from tests.test_lives import BEGINNING, FIRST, NO_PLAYS, PLAN, PLAY, TOLD
from tests.trials import SOME_KINDS, leading_within, random_plan, random_play, seeds_for

UNDER = {"top": "all", "mark": "one"}
NO_NAMES = ["", "A", "1a", "abcdefghi", "a b", None, 5, [], ("a",), b"all", Sour()]
TOPS = [*[("top", thing, BadTop, thing) for thing in [*NO_NAMES, "shop", "order"]]]
MARKS = [("mark", thing, BadMark, thing) for thing in NO_NAMES]
HEAD = [*no_plans(BadPlan), *no_beginnings(BadBeginning)]

# Two records of all, each with a shop in it, in the told form: numbers 0, 1 and 2, 3, 4.
TWO = [("all", "one", [("shop", "open", [("order", "new", [])])]), ("all", "one", [("shop", "open", [])])]
BEGUN = [("shop", "open", [("order", "new", [], True)], True)]
WOVEN = (TWO, [
    ("do", "put", [2, 3]), ("do", "put", [0, 1]), ("do", "send", [2, 3, 5]), ("do", "put", [0, 1]), ("do", "send", [0, 1, 7]),
    ("do", "send", [2, 3, 4]), ("delete", 6), ("do", "close", [2, 3]), ("delete", 2), ("do", "close", [0, 1]), ("delete", 1)])
MINE = ((("shop", "open", ()),), [
    ("do", "put", [0]), ("do", "put", [0]), ("do", "send", [0, 2]), ("delete", 1), ("do", "close", [0]), ("delete", 0)])
THEIRS = ((("shop", "open", (("order", "new", ()),)),), [
    ("do", "put", [0]), ("do", "send", [0, 2]), ("do", "send", [0, 1]), ("do", "close", [0])])


class Under(Case):

    def test_example(self):
        found = plan_under(PLAN, "all", "one")
        self.assertEqual(found.deed("close"), (
            "close", (("all", None, {"one": "one"}), ("shop", 0, {"open": "shut"})), ((1, "order", ("sent",)),), (), (), (), ()))
        self.assertEqual(play_under(PLAN, BEGINNING, ([("shop", "open", [])], [("do", "put", [0])]), "all", "one"), (
            (("all", "one", (("shop", "open", ()),)),), [("do", "put", [0, 1])]))

    def test_all_that_a_deed_has(self):
        found = plan_under(Plan(WIDE_KINDS, [WIDE]), "all", "one")
        self.assertEqual(found.kinds(), Kinds([
            ("all", "", ["one"], False), ("bin", "all", ["p", "q"], False), ("cup", "bin", ["a", "b"], False),
            ("jar", "bin", ["c"], False), ("van", "all", ["v"], False)]))
        self.assertEqual(found.deed("wide"), (
            "wide",
            (("all", None, {"one": "one"}), ("bin", 0, {"p": "q"}), ("cup", 1, {"a": "b"}), ("van", 0, {"v": "v"}),
             ("jar", 1, {"c": "c"}), ("bin", 0, {"p": "p"}), ("cup", 5, {"b": "b"})),
            ((1, "cup", ("a",)), (5, "jar", ()), (0, "van", ("v",)), (0, "cup", ())),
            ((5, "cup", {"a": None}), (0, "jar", {"c": None}), (0, "bin", {"q": "p"})),
            ((1, "cup", ("who", 5)), (5, "jar", ("new", 2)), (5, "cup", ("new", 1))),
            ((2, ("who", 5)), (4, ("new", 2)), (6, ("new", 1))),
            (("van", "v", ("who", 0)), ("bin", "q", ("who", 0)), ("bin", "p", ("who", 0)), ("cup", "a", ("new", 2)),
             ("jar", "c", ("who", 5)), ("cup", "b", ("who", 1))),
        ))

    def test_lasts_if_one_does(self):
        for lasts in ((False, False), (True, False), (False, True), (True, True)):
            plan = Plan(Kinds([("a", "", ["x"], lasts[0]), ("b", "", ["x"], lasts[1]), ("c", "a", ["x"], lasts[0])]), [])
            kinds = plan_under(plan, "top", "x").kinds()
            self.assertIs(kinds.lasts("top"), True in lasts)
            self.assertEqual([kinds.lasts(kind) for kind in ("a", "b", "c")], [lasts[0], lasts[1], lasts[0]])
            self.assertEqual([kinds.above(kind) for kind in ("top", "a", "b", "c")], ["", "top", "top", "a"])
        bare = plan_under(Plan(Kinds([]), [("nil", [], [], [], [], [], [])]), "top", "x")
        self.assertEqual(bare.kinds().all_rows(), [("top", "", ("x",), False)])
        self.assertEqual(bare.deed("nil")[1], (("top", None, {"x": "x"}),))

    def test_names(self):
        """The mark may be one that stands elsewhere, the top kind a mark's name."""
        self.assertEqual(plan_under(PLAN, "open", "shop").kinds().marks("open"), ["shop"])
        self.assertEqual(stand_under(PLAN, FIRST, "new", "open"), (("new", "open", (("shop", "open", ()),)),))

    def test_wrong(self):
        self.refuses(plan_under, {"plan": PLAN, **UNDER}, [*no_plans(BadPlan), *TOPS, *MARKS])
        self.refuses(stand_under, {"plan": PLAN, "stand": FIRST, **UNDER},
                     [*no_plans(BadPlan), *no_stands(BadStand, "stand", FIRST), *TOPS, *MARKS])
        self.refuses(beginning_under, {"plan": PLAN, "beginning": BEGINNING, **UNDER}, [*HEAD, *TOPS, *MARKS])
        plays = [("play", thing, BadPlay, thing) for thing in NO_PLAYS]
        self.refuses(play_under, {"plan": PLAN, "beginning": BEGINNING, "play": PLAY, **UNDER}, [*HEAD, *plays, *TOPS, *MARKS])
        plays = [("play", thing, BadPlay, thing) for thing in [*NO_PLAYS, PLAY, TOLD, (TWO, [("do", "put", [0, 3])])]]
        numbers = [("number", thing, BadNumber, thing) for thing in (1, 3, 5, 6, -1, True, None, "0", 0.0, [0], GREAT, Sour())]
        self.refuses(play_within, {"plan": PLAN, "beginning": BEGUN, **UNDER, "play": WOVEN, "number": 2},
                     [*HEAD, *TOPS, *MARKS, *plays, *numbers])

    def test_stands_and_beginnings(self):
        chance = chance_of(198)
        self.assertEqual(stand_under(PLAN, [], "all", "one"), (("all", "one", ()),))
        self.assertEqual(beginning_under(PLAN, [], "all", "one"), (("all", "one", (), True),))
        for _ in range(50):
            kinds = chance.choice(SOME_KINDS)
            plan = Plan(kinds, [])
            stand, begun = random_stand(chance, kinds, 6), random_beginning(chance, kinds, 6)
            self.assertEqual(stand_under(plan, shuffled(chance, stand), "all", "one"), (("all", "one", told(stand)),))
            self.assertEqual(beginning_under(plan, shuffled(chance, begun), "all", "one"), (("all", "one", told_seeds(begun), True),))

    def test_forms(self):
        self.assertEqual(plan_under(plan=PLAN, top="all", mark="one"), plan_under(PLAN, "all", "one"))
        for call, thing in ((stand_under, FIRST), (beginning_under, BEGINNING)):
            self.same_in_all_forms(call, PLAN, thing, "all", "one")
            self.new_each_time(call, PLAN, thing, "all", "one")
        self.same_in_all_forms(play_under, PLAN, BEGINNING, PLAY, "all", "one")
        self.new_each_time(play_under, PLAN, BEGINNING, PLAY, "all", "one")
        self.same_in_all_forms(play_within, PLAN, BEGUN, "all", "one", WOVEN, 2)
        self.new_each_time(play_within, PLAN, BEGUN, "all", "one", WOVEN, 2)


class Within(Case):

    def test_by_hand(self):
        self.assertEqual(play_within(PLAN, BEGUN, "all", "one", WOVEN, 0), MINE)
        self.assertEqual(play_within(PLAN, BEGUN, "all", "one", WOVEN, 2), THEIRS)
        self.assertEqual(play_within(plan=PLAN, beginning=BEGUN, top="all", mark="one", play=as_tuples(WOVEN), number=2), THEIRS)

    def test_up_to_its_deletion(self):
        play = (TWO, [("do", "put", [0, 1]), ("delete", 0), ("do", "put", [2, 3])])
        self.assertEqual(play_within(PLAN, BEGUN, "all", "one", play, 0), ((("shop", "open", ()),), [("do", "put", [0])]))
        self.assertEqual(play_within(PLAN, BEGUN, "all", "one", play, 2)[1], [("do", "put", [0])])

    def test_over_and_back(self):
        chance = chance_of(199)
        for _ in range(120):
            kinds = chance.choice([*SOME_KINDS, *TWO_LEVELS])
            plan = random_plan(chance, kinds, 4, asks=1, turns=2, pours=2, moves=2, news=3, most=3)
            first = random_stand(chance, kinds, 5)
            play = random_play(chance, plan, first, 7, 0.3)
            seeds = seeds_for(shuffled(chance, first))
            more, begun = plan_under(plan, "all", "one"), beginning_under(plan, seeds, "all", "one")
            found = play_under(plan, seeds, play, "all", "one")
            self.assertIsNone(play_fault(more, begun, found))
            self.assertEqual(ends(more, begun, found), stand_under(plan, ends(plan, seeds, play), "all", "one"))
            self.assertEqual(play_within(plan, seeds, "all", "one", found, 0), told_play(plan, seeds, play))

    def test_woven(self):
        """Plays in unlike records are woven; each goes on within its own one as it did alone."""
        chance = chance_of(200)
        for _ in range(80):
            kinds = chance.choice([*SOME_KINDS, *TWO_LEVELS])
            plan = random_plan(chance, kinds, 4, asks=1, turns=2, pours=2, moves=2, news=3, most=3)
            stands = [random_stand(chance, kinds, 4) for _ in range(3)]
            first = [("all", "one", stand) for stand in stands]
            more, seeds = plan_under(plan, "all", "one"), seeds_for([row for stand in stands for row in stand], True)
            play = random_play(chance, more, first, 12, 0.25)
            begun = beginning_under(plan, seeds, "all", "one")
            behind = told_play(more, begun, play)
            number = 0
            last = dict(self.left(more, behind))
            for _, _, heap in behind[0]:
                found = play_within(plan, seeds, "all", "one", play, number)
                self.assertEqual(found[0], heap)
                self.assertIsNone(play_fault(plan, seeds, found))
                self.assertEqual(ends(plan, seeds, found), last[number])
                number += 1 + size(heap)

    def left(self, plan, play):
        """What lies in each top record behind the play, or lay there when it was deleted."""
        from anywithin.grounds import Ground
        from anywithin.plays import do_step
        ground = Ground(plan, play[0])
        tops = [number for number in ground.numbers() if ground.record(number)[2] is None]
        for number in tops:
            ground = Ground(plan, play[0])
            for step in play[1]:
                if step == ("delete", number):
                    break
                do_step(ground, step)
            yield number, self.heap(ground, number)

    def heap(self, ground, number):
        return tuple(sorted((*ground.record(part)[:2], self.heap(ground, part)) for part in ground.parts(number)))

    def test_limits(self):
        chance = chance_of(201)
        kinds = Kinds([(name, above, list("abc"), False) for name, above in (("ka", ""), ("kb", "ka"), ("kc", "ka"), ("kd", ""))])
        for _ in range(5):
            plan = random_plan(chance, kinds, 5, asks=1, turns=2, pours=1, moves=2, news=2, most=2)
            stands = [random_stand(chance, kinds, 8) for _ in range(2)]
            seeds = seeds_for([row for stand in stands for row in stand], True)
            play = random_play(chance, plan, stands[0], 40, 0.1)
            found = self.soon(play_under, plan, seeds, play, "all", "one")
            self.assertEqual(self.soon(play_within, plan, seeds, "all", "one", found, 0), told_play(plan, seeds, play))
            both = random_play(chance, plan_under(plan, "all", "one"), [("all", "one", stand) for stand in stands], 40, 0.1)
            self.soon(play_within, plan, seeds, "all", "one", both, 0)


class Verdicts(Case):

    def test_comes_just_if_it_does(self):
        """A stand comes just if stand_under of it does under the top kind, by as few deeds."""
        chance = chance_of(202)
        words = {"told": 0, "never": 0}
        while min(words.values()) < 30:
            kinds = chance.choice([*SOME_KINDS, *TWO_LEVELS])
            plan = random_plan(chance, kinds, 3, asks=2, turns=1, news=2, most=2)
            asked = told(random_stand(chance, kinds, 3))
            if leading_within(plan, asked) is None:
                continue
            begun = random_beginning(chance, kinds, 3)
            word, shown = verdict(plan, begun, asked)
            words[word] += 1
            more, under = plan_under(plan, "all", "one"), beginning_under(plan, begun, "all", "one")
            there = stand_under(plan, asked, "all", "one")
            self.assertEqual(verdict(more, under, there)[0], word)
            self.assertEqual(fewest_deeds(more, under, there), fewest_deeds(plan, begun, asked))
            if word == "told":
                found = play_under(plan, begun, shown, "all", "one")
                self.assertEqual(judged(more, under, there, ("told", found)), "told")

    def test_several(self):
        """A stand of several records of top comes just if each of them alone does."""
        chance = chance_of(203)
        words = {"told": 0, "never": 0}
        while min(words.values()) < 15:
            kinds = chance.choice(SOME_KINDS)
            plan = random_plan(chance, kinds, 3, asks=2, turns=1, news=1, most=2)
            pair = [told(random_stand(chance, kinds, 2)) for _ in range(2)]
            more = plan_under(plan, "all", "one")
            asked = [("all", "one", stand) for stand in pair]
            if None in [leading_within(plan, stand) for stand in pair] or leading_within(more, asked) is None:
                continue
            begun = random_beginning(chance, kinds, 2)
            under = beginning_under(plan, begun, "all", "one")
            alone = [verdict(plan, begun, stand)[0] for stand in pair]
            word = verdict(more, under, asked)[0]
            self.assertEqual(word, "never" if "never" in alone else "told")
            words[word] += 1

    def test_a_place_none_would_let_them(self):
        """An ask with the place None, put into plan_under, is one of both records of top."""
        from anywithin.plans import with_ask
        plan = with_ask(plan_under(PLAN, "all", "one"), "close", (None, "order", ["sent"]))
        found = play_fault(plan, beginning_under(PLAN, BEGUN, "all", "one"), (TWO, [("do", "close", [0, 1])]))
        self.assertEqual(found, ("asked", 0))
        self.assertEqual(SHOPS, PLAN.kinds())
