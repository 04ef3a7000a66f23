"""[20.3], [20.6]: handed over from one plan to another one."""

from anywithin.anyof import any_verdict
from anywithin.before import least_before
from anywithin.errors import BadAsked, BadBeginning, BadPlan
from anywithin.grounds import Ground
from anywithin.handovers import handover, handover_judged
from anywithin.least import is_above
from anywithin.plans import Plan
from anywithin.plays import do_step
from anywithin.rounds import least_leading
from anywithin.sprouts import sprouted
from anywithin.verdicts import verdict
from tests.helpers import (
    Case, Sour, as_lists, as_tuples, chance_of, no_beginnings, no_plans, no_stands, odd_things, plain_begins,
    plain_lies, random_beginning, random_stand, shuffled, told,
)
from tests.test_twoplans import BOOK, LATE, NEW, OLD, PAY, SHUT, no_newer
from tests.trials import BIG_KINDS, SOME_KINDS, leading_within, plain_depths, random_plan

N, P = ("order", "new", ()), ("order", "paid", ())
BEGINNING = [("shop", "open", [("order", "new", [], True)], False)]
ASKED = [("shop", "shut", [("order", "paid", [])])]
ONE = ([("shop", "open", [("order", "new", [])])], [("do", "pay", [0, 1])], [("do", "shut", [0])])
LATER = [("shop", "late", [])]
WALLS = ([(("shop", "late", ()),), (("shop", "shut", ()),)], [(("shop", "late", ()),)])
WRONG = [*no_plans(BadPlan), *no_newer(), *no_beginnings(BadBeginning), *no_stands(BadAsked, "asked", ASKED)]
GOOD = {"plan": OLD, "newer": NEW, "beginning": BEGINNING, "asked": ASKED}


def leading_two(plan, newer, asked):
    """Later, and the least ones from which plan comes to it, by plain rounds; None beyond the limits."""
    if leading_within(newer, asked) is None:
        return None
    later = least_leading(newer, asked)
    for heap in later:
        if leading_within(plan, heap) is None:
            return None
    found = sorted({heap for one in later for heap in least_leading(plan, one)})
    return [heap for heap in found if not any(less != heap and plain_lies(less, heap) for less in found)], later


def plain_two_walls(plan, newer, begun, asked, walls):
    """Whether these two lists are a wall of two, word by word."""
    heaps, later = walls
    kinds = plan.kinds()
    if len(set(map(repr, heaps))) < len(heaps) or len(set(map(repr, later))) < len(later):
        return False
    for deeds, stands in ((newer, later), (plan, heaps)):
        for heap in stands:
            for deed in deeds.all_deeds():
                if not all(is_above(kinds, stands, before) for before in least_before(deeds, deed[0], heap)):
                    return False
    return (is_above(kinds, later, asked) and all(is_above(kinds, heaps, heap) for heap in later)
            and not any(plain_begins(begun, heap) for heap in heaps))


class Handover(Case):

    def right(self, plan, newer, begun, asked, found):
        """It is a handover, told, each of its steps done one behind another."""
        first, steps, later = found
        self.assertIs(type(found), tuple)
        self.assertEqual(first, told(first))
        self.assertTrue(plain_begins(begun, first))
        ground = Ground(plan, first)
        for step in steps:
            self.assertIs(type(step), tuple)
            do_step(ground, step)
        kept = ground.numbers(), ground.given(), ground.stand()
        ground = ground.handed(newer)
        self.assertEqual((ground.numbers(), ground.given(), ground.stand()), kept)
        for step in later:
            self.assertIs(type(step), tuple)
            do_step(ground, step)
        self.assertTrue(plain_lies(told(asked), ground.stand()))

    def test_example(self):
        self.assertEqual([verdict(one, BEGINNING, ASKED)[0] for one in (OLD, NEW)], ["never", "never"])
        self.assertEqual(handover_judged(OLD, NEW, BEGINNING, ASKED, ("told", ONE)), "told")
        word, found = handover(OLD, NEW, BEGINNING, ASKED)
        self.assertEqual(word, "told")
        self.right(OLD, NEW, BEGINNING, ASKED, found)
        self.assertEqual(handover(OLD, NEW, BEGINNING, LATER), ("never", WALLS))
        self.assertEqual(handover_judged(OLD, NEW, BEGINNING, LATER, ("never", WALLS)), "never")

    def test_numbers_go_on(self):
        """What is made by the newer plan has the next numbers, what is deleted in between does not come back."""
        kinds = BOOK
        make = ("make", [("shop", None, {"open": "open"})], [], [], [], [], [("order", "new", ("who", 0))])
        clear = ("clear", [("shop", None, {"open": "shut"})], [(0, "order", ["paid"])], [], [], [], [])
        plan, newer = Plan(kinds, [make]), Plan(kinds, [make, PAY, clear])
        begun = [("shop", "open", [], False)]
        first = [("shop", "open", [])]
        made, there = [("do", "make", [0]), ("do", "make", [0])], [("do", "make", [0]), ("delete", 1), ("delete", 2), ("do", "pay", [0, 3])]
        thing = (first, made, [*there, ("do", "clear", [0])])
        self.assertEqual(handover_judged(plan, newer, begun, ASKED, ("told", thing)), "told")
        for later in ([*there[:1], *there[2:], ("do", "clear", [0])], [("do", "pay", [0, 3]), ("do", "clear", [0])], there,
                      [*there, ("do", "clear", [0]), ("delete", 1)], [*there, ("do", "clear", [0]), ("delete", 0)]):
            self.assertIsNone(handover_judged(plan, newer, begun, ASKED, ("told", (first, made, later))))
        self.right(plan, newer, begun, ASKED, handover(plan, newer, begun, ASKED)[1])

    def test_either_may_do_nothing(self):
        for plan, newer in ((OLD, NEW), (NEW, OLD)):
            begun = [("shop", "open", [], True), ("shop", "shut", [], True)]
            for asked in ([], [("shop", "open", [])], [("shop", "late", [])], [("shop", "shut", [])] * 2):
                word, found = handover(plan, newer, begun, asked)
                self.assertEqual(word, "told")
                self.right(plan, newer, begun, asked, found)
        self.assertEqual(handover(OLD, NEW, [], []), ("told", ((), [], [])))

    def test_forms(self):
        for asked in (ASKED, LATER):
            wanted = self.same_in_all_forms(handover, OLD, NEW, BEGINNING, asked)
            self.new_each_time(handover, OLD, NEW, BEGINNING, asked)
            self.assertEqual(handover(plan=OLD, newer=NEW, beginning=BEGINNING, asked=asked), wanted)
        for thing in (as_lists(ONE), as_tuples(ONE)):
            for pair in (("told", thing), ["told", thing]):
                self.assertEqual(handover_judged(plan=OLD, newer=NEW, beginning=BEGINNING, asked=ASKED, thing=pair), "told")
        more = [(("shop", "shut", ()),), (("shop", "late", ()),), (("shop", "late", (P,)),)]
        for thing in (as_lists(WALLS), (more, WALLS[1]), (WALLS[0], more[1:]), (as_tuples(more), [LATER])):
            self.assertEqual(handover_judged(OLD, NEW, BEGINNING, LATER, ("never", thing)), "never")

    def test_wrong(self):
        self.refuses(handover, GOOD, WRONG)
        self.refuses(handover_judged, {**GOOD, "thing": None}, WRONG)

    def test_judged_any_object(self):
        for thing in odd_things():
            for asked in (ASKED, LATER):
                self.assertIsNone(handover_judged(OLD, NEW, BEGINNING, asked, thing))
                self.assertIsNone(handover_judged(OLD, NEW, BEGINNING, asked, (thing, ONE)))
                for word in ("told", "never"):
                    self.assertIsNone(handover_judged(OLD, NEW, BEGINNING, asked, (word, thing)))
                    for at in range(3):
                        parts = [*ONE[:at], thing, *ONE[at + 1:]]
                        self.assertIsNone(handover_judged(OLD, NEW, BEGINNING, asked, (word, parts)))
                    for parts in ((thing, WALLS[1]), (WALLS[0], thing), (thing, thing), [thing]):
                        self.assertIsNone(handover_judged(OLD, NEW, BEGINNING, asked, (word, parts)))

    def test_judged_told(self):
        first, steps, later = ONE
        for thing in (
            (first, steps, []), (first, [], later), (first, [*steps, *later], []), (first, [], [*steps, *later]),
            (first, later, steps), ([], [], []), ([("shop", "shut", [P])], [], []), (first, steps), (first, steps, later, []),
            (first * 2, steps, later), (first, steps, [("do", "shut", [1])]), (first, steps, [*later, *later]),
        ):
            self.assertIsNone(handover_judged(OLD, NEW, BEGINNING, ASKED, ("told", thing)))
        self.assertIsNone(handover_judged(OLD, NEW, BEGINNING, LATER, ("told", ONE)))
        self.assertIsNone(handover_judged(OLD, NEW, BEGINNING, ASKED, ("never", ONE)))
        self.assertEqual(handover_judged(OLD, NEW, BEGINNING, ASKED, ("told", (
            [("shop", "open", [N, N])], [("delete", 1), ("do", "pay", [0, 2])], [("do", "shut", [0])]))), "told")

    def test_judged_never(self):
        wall, later = WALLS
        for thing in (
            (later, wall), (wall, []), ([], later), ([], []), (later, later), ([*wall, wall[0]], later), (wall, later * 2),
            (wall, [(("shop", "shut", ()),)]), ([*wall, (("shop", "open", ()),)], later), ([*wall, ()], later), (wall, [()]),
            (wall[:1], later), (wall[1:], later), (wall, later, []), wall, later, (wall,), ([(("shop", "late", (P,)),), wall[1]], later),
        ):
            self.assertIsNone(handover_judged(OLD, NEW, BEGINNING, LATER, ("never", thing)))
        self.assertIsNone(handover_judged(OLD, NEW, BEGINNING, ASKED, ("never", WALLS)))
        self.assertIsNone(handover_judged(OLD, NEW, [("shop", "shut", [], False)], LATER, ("never", WALLS)))
        self.assertIsNone(handover_judged(OLD, NEW, BEGINNING, LATER, ("told", WALLS)))

    def test_one_is_right(self):
        """Told ones are handovers; least walls are those that plain rounds tell; and what comes is any_verdict's."""
        chance = chance_of(208)
        words = {"told": 0, "never": 0}
        both = 0
        while min(words.values()) < 60:
            kinds = chance.choice(SOME_KINDS)
            plan = random_plan(chance, kinds, chance.randint(1, 3), asks=1, turns=1, news=2, most=2)
            newer = random_plan(chance, kinds, chance.randint(1, 3), asks=1, turns=1, news=2, most=2)
            asked = told(random_stand(chance, kinds, 3))
            lists = leading_two(plan, newer, asked)
            if lists is None:
                continue
            begun = random_beginning(chance, kinds, 2)
            word, shown = handover(plan, newer, begun, asked)
            words[word] += 1
            self.assertEqual(handover_judged(plan, newer, begun, asked, (word, shown)), word)
            self.assertEqual(any_verdict(plan, begun, lists[1])[0], word)
            if word == "told":
                self.right(plan, newer, begun, asked, shown)
                both += bool(shown[1]) and bool(shown[2])
            else:
                self.assertEqual(shown, lists)
                self.assertTrue(plain_two_walls(plan, newer, begun, asked, shown))
        self.assertGreater(both, 3)

    def test_judged_as_the_words_say(self):
        """Lists near the least walls: wall of two or not, by a plain look."""
        chance = chance_of(209)
        seen = {None: 0, "never": 0}
        while min(seen.values()) < 60:
            kinds = chance.choice(SOME_KINDS)
            plan, newer = (random_plan(chance, kinds, 2, asks=1, news=1, most=2) for _ in range(2))
            asked = told(random_stand(chance, kinds, 2))
            lists = leading_two(plan, newer, asked)
            begun = random_beginning(chance, kinds, 2)
            if lists is None or handover(plan, newer, begun, asked)[0] == "told":
                continue
            for _ in range(6):
                walls = [list(heaps) for heaps in lists]
                heaps = chance.choice(walls)
                if heaps and chance.random() < 0.5:
                    heaps.pop(chance.randrange(len(heaps)))
                else:
                    heaps.append(told(random_stand(chance, kinds, 4)))
                wanted = "never" if plain_two_walls(plan, newer, begun, asked, walls) else None
                seen[wanted] += 1
                passed = [[shuffled(chance, heap) for heap in heaps] for heaps in walls]
                self.assertEqual(handover_judged(plan, newer, begun, asked, ("never", passed)), wanted)

    def test_by_a_trial(self):
        """What small plays of one plan, then of the other one, bring is told."""
        chance = chance_of(210)
        seen = {"told": 0, "never": 0}
        while min(seen.values()) < 12:
            kinds = SOME_KINDS[0]
            plan, newer = (random_plan(chance, kinds, 2, asks=1, news=1, most=2) for _ in range(2))
            begun = random_beginning(chance, kinds, 2)
            ahead = plain_depths(plan, sprouted(kinds, begun, 1), 3)
            came = {end for heap in ahead for end in plain_depths(newer, heap, 3)}
            for _ in range(4):
                asked = told(random_stand(chance, kinds, 2))
                if leading_two(plan, newer, asked) is None:
                    continue
                word = handover(plan, newer, begun, asked)[0]
                seen[word] += 1
                if any(plain_lies(asked, end) for end in came):
                    self.assertEqual(word, "told")

    def test_limits(self):
        chance = chance_of(211)
        tried = 0
        while tried < 12:
            kinds = chance.choice(BIG_KINDS)
            plan, newer = (random_plan(chance, kinds, 3, asks=2, turns=2, pours=1, moves=2, news=2, most=3) for _ in range(2))
            asked = told(random_stand(chance, kinds, 4))
            if leading_two(plan, newer, asked) is None:
                continue
            tried += 1
            begun = random_beginning(chance, kinds, 4)
            found = self.soon(handover, plan, newer, begun, asked)
            self.assertEqual(self.soon(handover_judged, plan, newer, begun, asked, found), found[0])

    def test_again_and_again(self):
        """Answers do not hang on what was asked ahead."""
        plan, newer = Plan(BOOK, [PAY, LATE]), Plan(BOOK, [SHUT])
        for begun in ([], BEGINNING, [("shop", "shut", [], True)]):
            for asked in (ASKED, LATER, []):
                wanted = handover(Plan(BOOK, [LATE, PAY]), Plan(BOOK, [SHUT]), begun, asked)
                self.assertEqual(handover(plan, newer, begun, asked), wanted)
        self.assertIsNone(handover_judged(plan, newer, BEGINNING, ASKED, ("told", Sour())))
