"""[15.4], [15.6]: two sorts together."""

from anywithin.anyof import any_verdict
from anywithin.errors import BadBeginning, BadOther, BadPlan
from anywithin.least import least_ones
from anywithin.most import crowds
from anywithin.overlays import overlays
from anywithin.plans import Plan
from anywithin.plays import ends, is_bringing
from anywithin.refusals import BadHow, BadOne
from anywithin.together import meetings, together
from tests.helpers import (
    Case, Sour, all_heaps, chance_of, no_beginnings, no_plans, odd_things, random_beginning, written,
)
from tests.test_anyof import BEGINNING, N, P, PLAN, SHOPS, shop
from tests.test_most import DEEP, NEW, NO_KINDS, NO_SORTS, OPEN, PAID
from tests.trials import SOME_KINDS, leading_within, plain_least, random_plan

HOWS = ["within", "beside", "anywhere"]
SORTS = [(kind, mark) for kind in DEEP.all_kinds() for mark in DEEP.marks(kind)]


def records(heap, way=()):
    """All records of a told stand: (way, above, kind, mark)."""
    for index, (kind, mark, parts) in enumerate(heap):
        yield (*way, index), kind, mark
        yield from records(parts, (*way, index))


def stand_so(heap, one, other, how):
    """Whether two records of these sorts stand so in heap, by a look at all pairs."""
    rows = list(records(heap))
    for way, kind, mark in rows:
        for there, kind_there, mark_there in rows:
            if (kind, mark) != one or (kind_there, mark_there) != other:
                continue
            if how == "within" and way[:-1] == there and way != there:
                return True
            if how == "beside" and way[:-1] == there[:-1] and way != there:
                return True
            if how == "anywhere" and (way != there or one == other):
                return True
    return False


class Meetings(Case):

    def test_within(self):
        self.assertEqual(meetings(SHOPS, NEW, OPEN, "within"), [(shop(N),)])
        self.assertEqual(meetings(DEEP, ("egg", "x"), ("cup", "d"), "within"), crowds(DEEP, ("cup", "d"), ("egg", "x"), 1))

    def test_beside(self):
        self.assertEqual(meetings(SHOPS, PAID, NEW, "beside"), [(shop(N, P),)])
        self.assertEqual(meetings(SHOPS, NEW, NEW, "beside"), [(shop(N, N),)])
        self.assertEqual(meetings(SHOPS, OPEN, OPEN, "beside"), [(shop(), shop())])
        c, x = ("cup", "c", ()), ("fig", "x", ())
        self.assertEqual(meetings(DEEP, ("fig", "x"), ("cup", "c"), "beside"), [
            (("box", mark, (c, x)),) for mark in "ab"])
        pair = (("egg", "x", ()), ("egg", "y", ()))
        self.assertEqual(meetings(DEEP, ("egg", "y"), ("egg", "x"), "beside"), [
            (("box", top, (("cup", mark, pair),)),) for top in "ab" for mark in "cd"])

    def test_anywhere(self):
        self.assertEqual(meetings(SHOPS, NEW, NEW, "anywhere"), [(shop(N),)])
        self.assertEqual(meetings(SHOPS, NEW, OPEN, "anywhere"), [(shop(N),)])
        self.assertEqual(meetings(SHOPS, OPEN, OPEN, "anywhere"), [(shop(),)])
        self.assertEqual(meetings(SHOPS, NEW, PAID, "anywhere"), [(shop(N), shop(P)), (shop(N, P),)])
        self.assertEqual(meetings(DEEP, ("fig", "x"), ("fig", "x"), "anywhere"), [
            (("box", mark, (("fig", "x", ()),)),) for mark in "ab"])

    def test_as_the_words_say(self):
        """The least of all small stands in which two such records stand so."""
        heaps = all_heaps(SHOPS, 4)
        for one in (NEW, PAID, OPEN):
            for other in (NEW, PAID, OPEN):
                for how in HOWS:
                    wanted = plain_least([heap for heap in heaps if stand_so(heap, one, other, how)])
                    self.told_or_refused(SHOPS, one, other, how, wanted)
        three = all_heaps(SOME_KINDS[2], 5)
        for one in (("egg", "x"), ("cup", "c"), ("box", "b")):
            for other in (("egg", "x"), ("egg", "y"), ("cup", "c"), ("box", "a")):
                for how in ("within", "beside"):
                    wanted = plain_least([heap for heap in three if stand_so(heap, one, other, how)])
                    self.told_or_refused(SOME_KINDS[2], one, other, how, wanted)

    def told_or_refused(self, kinds, one, other, how, wanted):
        above = kinds.above(one[0])
        right = {"within": above == other[0], "beside": above == kinds.above(other[0]), "anywhere": True}[how]
        if right:
            self.assertEqual(meetings(kinds, one, other, how), wanted)
        else:
            self.raised(BadHow, how, meetings, kinds, one, other, how)

    def test_anywhere_of_all(self):
        def chains(kinds, sort):
            heaps = [((*sort, ()),)]
            above = kinds.above(sort[0])
            while above:
                heaps = [((above, mark, heap),) for heap in heaps for mark in kinds.marks(above)]
                above = kinds.above(above)
            return heaps

        for one in SORTS:
            for other in SORTS:
                wanted = [both for heap in chains(DEEP, one) for mate in chains(DEEP, other)
                          for both in overlays(DEEP, heap, mate)]
                self.assertEqual(meetings(DEEP, one, other, "anywhere"), least_ones(DEEP, wanted))

    def test_forms(self):
        for how in ("beside", "anywhere"):
            self.same_in_all_forms(meetings, SHOPS, NEW, PAID, how)
            self.new_each_time(meetings, SHOPS, NEW, PAID, how)
            self.assertEqual(meetings(kinds=SHOPS, one=["order", "new"], other=PAID, how=how),
                             meetings(SHOPS, PAID, ["order", "new"], how))

    def test_wrong(self):
        hows = [("how", thing, BadHow, thing) for thing in (
            "within", "", "Beside", None, 5, ["beside"], True, Sour(), "anywhere ", b"beside")]
        sorts = [("one", thing, BadOne, thing) for thing in [None, *NO_SORTS]]
        sorts += [("other", thing, BadOther, thing) for thing in [None, *NO_SORTS]]
        good = {"one": NEW, "other": PAID, "how": "beside"}
        self.refuses(meetings, {"kinds": SHOPS, **good}, [*NO_KINDS, *sorts, *hows])
        self.refuses(together, {"plan": PLAN, "beginning": [], **good},
                     [*no_plans(BadPlan), *no_beginnings(BadBeginning), *sorts, *hows])
        self.raised(BadHow, "within", meetings, SHOPS, OPEN, NEW, "within")
        self.raised(BadHow, "beside", meetings, SHOPS, OPEN, NEW, "beside")
        self.raised(BadHow, "beside", meetings, DEEP, ("egg", "x"), ("fig", "x"), "beside")
        self.raised(BadHow, "within", meetings, DEEP, ("egg", "x"), ("box", "a"), "within")
        for thing in odd_things():
            self.raised(BadHow, thing, meetings, SHOPS, NEW, NEW, thing)
            if written(thing) != "['shop', 'open']":
                self.raised(BadOne, thing, meetings, SHOPS, thing, thing, thing)
                self.raised(BadOther, thing, meetings, SHOPS, NEW, thing, thing)


class Together(Case):

    def test_example(self):
        word, play = together(PLAN, BEGINNING, NEW, PAID, "beside")
        self.assertEqual(word, "told")
        self.assertIs(is_bringing(PLAN, BEGINNING, [shop(N, P)], play), True)
        self.assertEqual(together(PLAN, BEGINNING, NEW, NEW, "beside"), ("never", [(shop(N, N),)]))
        self.assertEqual(together(PLAN, BEGINNING, NEW, NEW, "anywhere")[0], "told")
        self.assertEqual(together(Plan(SHOPS, []), BEGINNING, NEW, OPEN, "within"), ("never", [(shop(N),)]))

    def test_forms(self):
        for how in ("beside", "anywhere"):
            self.same_in_all_forms(together, PLAN, BEGINNING, NEW, PAID, how)
            self.new_each_time(together, PLAN, BEGINNING, NEW, NEW, how)

    def test_at_random(self):
        chance = chance_of(157)
        words = {"told": 0, "never": 0}
        while min(words.values()) < 15:
            kinds = chance.choice([*SOME_KINDS, DEEP])
            plan = random_plan(chance, kinds, 3, asks=2, news=2)
            sorts = [(kind, mark) for kind in kinds.all_kinds() for mark in kinds.marks(kind)]
            one, other, how = chance.choice(sorts), chance.choice(sorts), chance.choice(HOWS)
            try:
                stands = meetings(kinds, one, other, how)
            except BadHow:
                continue
            if None in [leading_within(plan, stand) for stand in stands]:
                continue
            beginning = random_beginning(chance, kinds, 2)
            found = self.soon(together, plan, beginning, one, other, how)
            self.assertEqual(found, any_verdict(plan, beginning, stands))
            words[found[0]] += 1
            if found[0] == "told":
                self.assertTrue(stand_so(ends(plan, beginning, found[1]), one, other, how))
