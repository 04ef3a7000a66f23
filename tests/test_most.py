"""[15.2], [15.3], [15.6]: crowds, and at most so many."""

from anywithin.anyof import any_judged, any_verdict
from anywithin.errors import BadBeginning, BadKinds, BadNumber, BadPlan
from anywithin.kinds import Kinds
from anywithin.most import crowd_verdict, crowds, most_of
from anywithin.plans import Plan
from anywithin.plays import is_bringing
from anywithin.refusals import BadHolder, BadLimit, BadPart
from anywithin.walls import is_barrier
from tests.helpers import (
    GREAT, Case, Sour, chance_of, no_beginnings, no_plans, odd_things, plain_lies, random_beginning,
    written,
)
from tests.test_anyof import BEGINNING, N, NEW_TWICE, P, PAY, PLAN, SHOPS, TAKE, shop
from tests.trials import BIG_KINDS, SOME_KINDS, leading_within, random_plan

OPEN, NEW, PAID = ("shop", "open"), ("order", "new"), ("order", "paid")
DEEP = Kinds([("box", "", ["a", "b"], False), ("cup", "box", ["c", "d"], False), ("egg", "cup", ["x", "y"], False),
              ("fig", "box", ["x"], False)])
NO_SORTS = [5, "shop", (), ("shop",), ("shop", "shut"), ("nix", "open"), ("shop", "open", 1), ["shop", 5], Sour(),
            {"shop": "open"}, (["shop"], "open"), (Sour(), Sour()), True]
NO_KINDS = [("kinds", thing, BadKinds, thing) for thing in (None, 5, PLAN, [], Sour())]
NO_HOLDERS = [("holder", thing, BadHolder, thing) for thing in NO_SORTS]
NO_PARTS = [("part", thing, BadPart, thing) for thing in [None, OPEN, *NO_SORTS]]
WRONG = [*no_plans(BadPlan), *no_beginnings(BadBeginning)]


class Crowds(Case):

    def test_crowds(self):
        self.assertEqual(crowds(SHOPS, OPEN, NEW, 2), [NEW_TWICE])
        self.assertEqual(crowds(SHOPS, None, OPEN, 3), [(shop(), shop(), shop())])
        self.assertEqual(crowds(DEEP, ("cup", "d"), ("egg", "x"), 1), [
            (("box", mark, (("cup", "d", (("egg", "x", ()),)),)),) for mark in "ab"])
        self.assertEqual(crowds(DEEP, ("box", "b"), ("fig", "x"), 2), [(("box", "b", (("fig", "x", ()),) * 2),)])

    def test_four_levels(self):
        kinds = Kinds([*DEEP.all_rows(), ("pip", "egg", ["p", "q"], False)])
        found = crowds(kinds, ("egg", "y"), ("pip", "q"), 2)
        self.assertEqual(found, [
            (("box", top, (("cup", mark, (("egg", "y", (("pip", "q", ()),) * 2),)),)),) for top in "ab" for mark in "cd"])
        self.assertEqual(found, sorted(found))

    def test_forms(self):
        wanted = crowds(DEEP, ("cup", "d"), ("egg", "x"), 2)
        self.assertEqual(crowds(kinds=DEEP, holder=["cup", "d"], part=["egg", "x"], number=2), wanted)
        self.same_in_all_forms(crowds, DEEP, ("cup", "d"), ("egg", "x"), 2)
        self.new_each_time(crowds, DEEP, ("cup", "d"), ("egg", "x"), 2)

    def test_wrong(self):
        numbers = [("number", thing, BadNumber, thing) for thing in (0, -1, True, None, "1", 1.0, [], Sour(), -GREAT)]
        good = {"holder": OPEN, "part": NEW, "number": 2}
        self.refuses(crowds, {"kinds": SHOPS, **good}, [*NO_KINDS, *NO_HOLDERS, *NO_PARTS, *numbers])
        self.refuses(crowd_verdict, {"plan": PLAN, "beginning": [], **good}, [*WRONG, *NO_HOLDERS, *NO_PARTS, *numbers])
        limits = [("limit", thing, BadLimit, thing) for thing in (-1, True, None, "1", 1.0, [], Sour(), -GREAT)]
        del good["number"]
        self.refuses(most_of, {"plan": PLAN, "beginning": [], **good, "limit": 1},
                     [*WRONG, *NO_HOLDERS, *NO_PARTS, *limits])
        for part in (NEW, PAID, None, ("order", "open")):
            self.raised(BadPart, part, crowds, SHOPS, None, part, 1)
        for part in (("egg", "x"), ("box", "a"), ("cup", "x")):
            self.raised(BadPart, part, crowds, DEEP, ("box", "a"), part, 1)
        self.raised(BadHolder, OPEN, crowds, DEEP, OPEN, ("egg", "x"), 1)

    def test_any_object(self):
        for thing in odd_things():
            if thing is not None and written(thing) != "['shop', 'open']":
                self.raised(BadHolder, thing, crowds, SHOPS, thing, None, 1)
            self.raised(BadPart, thing, crowds, SHOPS, OPEN, thing, 0)

    def test_each_lies_in_the_next(self):
        for holder, part in ((None, ("box", "a")), (("box", "a"), ("fig", "x")), (("cup", "c"), ("egg", "y"))):
            for number in range(1, 4):
                for less, more in zip(crowds(DEEP, holder, part, number), crowds(DEEP, holder, part, number + 1)):
                    self.assertTrue(plain_lies(less, more))


class AtMost(Case):

    def test_example(self):
        self.assertEqual(most_of(PLAN, BEGINNING, OPEN, NEW, 2), (1, [NEW_TWICE]))
        most, play = most_of(PLAN, BEGINNING, OPEN, PAID, 1)
        self.assertIsNone(most)
        self.assertIs(is_bringing(PLAN, BEGINNING, [shop(P, P)], play), True)
        steps = [("do", "take", [0]), ("do", "pay", [0, 1]), ("do", "take", [0]), ("do", "pay", [0, 2])]
        self.assertEqual(any_judged(PLAN, BEGINNING, crowds(SHOPS, OPEN, PAID, 2), ("told", ([shop()], steps))), "told")

    def test_none_at_all(self):
        self.assertEqual(most_of(Plan(SHOPS, [PAY]), BEGINNING, OPEN, NEW, 3), (0, [(shop(N),)]))
        self.assertEqual(most_of(Plan(SHOPS, []), [("shop", "open", [], False)] * 2, None, OPEN, 3),
                         (2, [(shop(), shop(), shop())]))
        self.assertEqual(most_of(Plan(SHOPS, []), [], None, OPEN, 0), (0, [(shop(),)]))
        most, play = most_of(Plan(SHOPS, []), BEGINNING, None, OPEN, 0)
        self.assertIsNone(most)
        self.assertIs(is_bringing(Plan(SHOPS, []), BEGINNING, [shop()], play), True)
        # limit is the greatest that is tried: with two there would be one more.
        self.assertIsNone(most_of(PLAN, BEGINNING, OPEN, NEW, 0)[0])

    def test_crowd_verdict(self):
        self.assertEqual(crowd_verdict(PLAN, BEGINNING, OPEN, NEW, 2), ("never", [NEW_TWICE]))
        word, play = crowd_verdict(PLAN, BEGINNING, OPEN, NEW, 1)
        self.assertEqual((word, is_bringing(PLAN, BEGINNING, [shop(N)], play)), ("told", True))
        for call in (crowd_verdict, most_of):
            for part in (NEW, PAID):
                self.same_in_all_forms(call, PLAN, BEGINNING, OPEN, part, 1)
                self.new_each_time(call, PLAN, BEGINNING, OPEN, part, 1)

    def test_just_one(self):
        chance = chance_of(155)
        found = {}
        while len(found) < 4 or min(found.values()) < 4:
            kinds = chance.choice([*SOME_KINDS, DEEP])
            plan = random_plan(chance, kinds, 3, asks=2, turns=2, news=2)
            kind = chance.choice([one for one in kinds.all_kinds() if kinds.parts(one)] + [None])
            holder = kind and (kind, chance.choice(kinds.marks(kind)))
            inner = chance.choice(kinds.parts(kind or ""))
            part = (inner, chance.choice(kinds.marks(inner)))
            every = [crowds(kinds, holder, part, number) for number in range(1, 4)]
            if None in [leading_within(plan, one) for crowd in every for one in crowd]:
                continue
            beginning = random_beginning(chance, kinds, 3)
            most, shown = most_of(plan, beginning, holder, part, 2)
            words = [any_verdict(plan, beginning, crowd)[0] for crowd in every]
            self.assertEqual(words, sorted(words, reverse=True))
            self.assertEqual(most, words.index("never") if "never" in words else None)
            if most is None:
                self.assertEqual(any_judged(plan, beginning, every[-1], ("told", shown)), "told")
            else:
                self.assertTrue(all(is_barrier(plan, beginning, one, shown) for one in every[most]))
                self.assertEqual(crowd_verdict(plan, beginning, holder, part, most + 1), ("never", shown))
            found[most] = found.get(most, 0) + 1

    def test_limits(self):
        self.assertEqual(self.soon(most_of, Plan(SHOPS, [TAKE, PAY]), BEGINNING, OPEN, NEW, 3), (1, [NEW_TWICE]))
        chance = chance_of(156)
        tried = 0
        while tried < 10:
            kinds = chance.choice(BIG_KINDS)
            plan = random_plan(chance, kinds, 5, asks=2, turns=2, pours=1, moves=2, news=2, most=3)
            holder, part = ("kb", "a"), (kinds.parts("kb")[0], "b")
            if None in [leading_within(plan, one) for one in crowds(kinds, holder, part, 4)]:
                continue
            tried += 1
            self.soon(most_of, plan, random_beginning(chance, kinds, 4), holder, part, 3)
