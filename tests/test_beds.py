"""[21.1] to [21.3]: beds, one form, greatest ones, two met."""

from anywithin.beds import bed_within, beds_met, greatest_beds, in_bed, is_bed, told_bed
from anywithin.errors import BadKinds, BadStand
from anywithin.kinds import Kinds
from anywithin.overlays import overlays
from anywithin.placings import lies_in
from anywithin.refusals import BadBed, BadBeds, BadCover
from tests.helpers import Case, Sour, all_heaps, as_lists, as_tuples, chance_of, deep, no_stands, odd_things, random_stand
from tests.plots import DEEP, FOUR, LEVEL, ONE, PAIRS, SHOPS, E, is_told, mixed, plain_in_bed, plain_within, random_bed
from tests.test_most import NO_KINDS

N, P = ("order", "new", E), ("order", "paid", E)
NEW, PAID = ("order", "new", ()), ("order", "paid", ())
OPEN = ("shop", "open", ((N,), (P,)))
BED = ((OPEN,), (("shop", "shut", ((), (P,))),))

NO_BEDS = [
    None, 5, "", "ab", {}, [], (), [[]], ([], [], []), ([], None), (None, []), ("", []), ([], ""), ([5], []), ([], [5]),
    ([("shop", "open")], []), ([("shop", "open", ([], []), 1)], []), ([("shop", "open", [])], []), ([("shop", "open", None)], []),
    ([("shop", "new", E)], []), ([("order", "new", E)], []), ([], [("nix", "open", E)]), ([("shop", "open", ([("shop", "open", E)], []))], []),
    ([("shop", "open", ([("order", "open", E)], []))], []), ([("shop", "open", ([("order", "new", ([N], []))], []))], []),
    ([("shop", "open", E), ("shop", ["open"], E)], []), ([(["shop"], "open", E)], []), ([{}], []), ([("shop", "open", E)], [None]),
    Sour(), (Sour(), []), ([Sour()], []), ([("shop", "open", Sour())], []), ([("shop", Sour(), E)], []), ([(Sour(), "open", E)], []),
    ([("shop", "open", deep(50000))], []),
]
SOME = [LEVEL, PAIRS, SHOPS, FOUR, DEEP]
# Few marks without, so that places may often go with one another.
DENSE = Kinds([("box", "", ["a"], False), ("egg", "box", ["x", "y"], False)])


def no_kinds():
    return [("kinds", thing, BadKinds, thing) for thing in NO_KINDS]


def no_beds(error=BadBed, name="bed"):
    return [(name, thing, error, thing) for thing in NO_BEDS]


def beds_lists(name="beds"):
    """Wrong lists of beds, each with the index that the error keeps."""
    return [(name, thing, BadBeds, index) for thing, index in (
        (None, 0), ("", 0), ({}, 0), (5, 0), (Sour(), 0), ([None], 0), ([BED, E, NO_BEDS[3]], 2), (BED, 0), ([E, 5, None], 1), ([[]], 0))]


class Beds(Case):

    def test_is_bed(self):
        for bed in (E, [[], []], BED, as_lists(BED), ([OPEN, OPEN], [OPEN]), (BED[1], BED[1]), [(), []]):
            self.assertIs(is_bed(SHOPS, bed), True)
        self.assertIs(is_bed(kinds=ONE, thing=([N, N], [P])), True)
        self.assertIs(is_bed(SHOPS, ([N], [])), False)
        for thing in NO_BEDS:
            self.assertIs(is_bed(SHOPS, thing), False)

    def test_any_object(self):
        for thing in odd_things():
            right = isinstance(thing, (list, tuple)) and len(thing) == 2 and all(
                isinstance(part, (list, tuple)) and len(part) == 0 for part in thing)
            self.assertIs(is_bed(SHOPS, thing), right)
            for bed in (([thing], []), ([], [thing]), ([("shop", "open", (thing, []))], [])):
                if not isinstance(thing, (list, tuple)) or len(thing) > 0:
                    self.assertIs(is_bed(SHOPS, bed), False)

    def test_wrong(self):
        self.refuses(is_bed, {"kinds": SHOPS, "thing": None}, no_kinds())
        stand = [("shop", "open", [])]
        self.refuses(in_bed, {"kinds": SHOPS, "bed": BED, "stand": stand}, [*no_kinds(), *no_beds(), *no_stands(BadStand, "stand", stand)])
        self.refuses(told_bed, {"kinds": SHOPS, "bed": BED}, [*no_kinds(), *no_beds()])
        for call in (bed_within, beds_met):
            self.refuses(call, {"kinds": SHOPS, "bed": BED, "cover": E}, [*no_kinds(), *no_beds(), *no_beds(BadCover, "cover")])
        self.refuses(greatest_beds, {"kinds": SHOPS, "beds": [BED]}, [*no_kinds(), *beds_lists()])

    def test_in_bed_by_hand(self):
        def shop(mark, *parts):
            return ("shop", mark, list(parts))
        for stand, wanted in (
            ([], True), ([shop("open")], True), ([shop("open", NEW, PAID, PAID, PAID)], True), ([shop("open", NEW, NEW)], False),
            ([shop("open"), shop("open")], False), ([shop("shut", PAID, PAID)] * 3 + [shop("open", PAID)], True),
            ([shop("shut", NEW)], False), ([shop("shut")] * 5, True),
        ):
            self.assertIs(in_bed(SHOPS, BED, stand), wanted)
            self.assertIs(in_bed(kinds=SHOPS, bed=as_lists(BED), stand=as_tuples(stand)), wanted)
        for stand in ([shop("open")], [shop("shut")]):
            self.assertIs(in_bed(SHOPS, E, stand), False)
        self.assertIs(in_bed(SHOPS, E, []), True)
        # Of two alike places each takes one; a record goes to the place in whose bed its parts lie.
        twice = ([("shop", "open", E), ("shop", "open", ((P,), ()))], [])
        self.assertIs(in_bed(SHOPS, twice, [shop("open"), shop("open", PAID)]), True)
        self.assertIs(in_bed(SHOPS, twice, [shop("open", PAID), shop("open", PAID)]), False)
        self.assertIs(in_bed(SHOPS, twice, [shop("open"), shop("open")]), True)

    def test_in_bed_at_random(self):
        chance = chance_of(217)
        seen = {True: 0, False: 0}
        for _ in range(120):
            kinds = chance.choice(SOME)
            bed = random_bed(chance, kinds, 2)
            for _ in range(8):
                stand = random_stand(chance, kinds, 4)
                found = in_bed(kinds, bed, stand)
                self.assertIs(found, plain_in_bed(bed, stand))
                self.assertIs(in_bed(kinds, mixed(chance, bed), as_tuples(stand)), found)
                seen[found] += 1
        self.assertGreater(min(seen.values()), 50)

    def test_closed(self):
        """What lies in what lies in a bed lies in it; of two that do some stand in which both lie does."""
        chance = chance_of(218)
        for _ in range(30):
            kinds = chance.choice([PAIRS, LEVEL])
            bed = random_bed(chance, kinds, 2)
            heaps = all_heaps(kinds, 3)
            inside = [heap for heap in heaps if in_bed(kinds, bed, heap)]
            for heap in inside:
                for less in heaps[:20]:
                    if lies_in(kinds, less, heap):
                        self.assertIn(less, inside)
            for _ in range(10):
                one, other = chance.choice(inside), chance.choice(inside)
                self.assertTrue(any(in_bed(kinds, bed, both) for both in overlays(kinds, one, other)))


class OneForm(Case):

    def test_by_hand(self):
        self.assertEqual(told_bed(ONE, ([N, P, P], [N, N])), ((P, P), (N,)))
        self.assertEqual(told_bed(ONE, [[], []]), E)
        open_many, open_none = ("shop", "open", ((), (N, P))), ("shop", "open", E)
        self.assertEqual(told_bed(SHOPS, ([OPEN, open_none], [open_none])), ((OPEN,), (open_none,)))
        self.assertEqual(told_bed(SHOPS, ([OPEN, open_none], [open_none, open_many, OPEN])), ((), (open_many,)))
        self.assertEqual(told_bed(SHOPS, ([("shop", "open", ([P, N, P], [P]))], [])), ((("shop", "open", ((N,), (P,))),), ()))
        self.assertEqual(told_bed(SHOPS, ([OPEN, open_none, OPEN], [])), ((open_none, OPEN, OPEN), ()))

    def test_within_by_hand(self):
        bed = ((N,), ())
        for one, other, wanted in (
            (E, E, True), (E, bed, True), (bed, E, False), (bed, ((), (N,)), True), (((), (N,)), bed, False),
            (((), (N,)), ((N, N, N), ()), False), ((((N, N)), ()), bed, False), (((N, P), ()), ((P,), (N,)), True),
            (((P, P), (N,)), ((P,), (N,)), False), (((N, N), ()), ((N, N, P), ()), True),
        ):
            self.assertIs(bed_within(ONE, one, other), wanted)
            self.assertIs(bed_within(kinds=ONE, bed=as_lists(one), cover=as_lists(other)), wanted)
        # Each of some has to have its own place of some.
        less, more = ("shop", "open", E), ("shop", "open", ((P,), ()))
        self.assertIs(bed_within(SHOPS, ((less, more), ()), ((more, less), ())), True)
        self.assertIs(bed_within(SHOPS, ((more, more), ()), ((more, less), ())), False)
        self.assertIs(bed_within(SHOPS, ((less, less), ()), ((more, less), ())), True)
        self.assertIs(bed_within(SHOPS, ((less, more), ()), ((more,), (less,))), True)

    def test_within_at_random(self):
        chance = chance_of(219)
        seen = {True: 0, False: 0}
        for _ in range(500):
            kinds = chance.choice([LEVEL, PAIRS, SHOPS, FOUR])
            bed, cover = random_bed(chance, kinds, 1), random_bed(chance, kinds, 2)
            found = bed_within(kinds, bed, cover)
            self.assertIs(found, plain_within(bed, cover))
            self.assertIs(bed_within(kinds, mixed(chance, bed), mixed(chance, cover)), found)
            seen[found] += 1
        self.assertGreater(min(seen.values()), 50)

    def test_told_at_random(self):
        """Told beds are within each other's; nothing in them is within what would take it; told again they stay."""
        chance = chance_of(220)
        for _ in range(250):
            kinds = chance.choice(SOME)
            bed = random_bed(chance, kinds, 3)
            found = told_bed(kinds, bed)
            self.assertTrue(is_told(found))
            self.lean(found)
            self.assertTrue(bed_within(kinds, bed, found) and bed_within(kinds, found, bed))
            self.assertEqual(told_bed(kinds, found), found)
            self.assertEqual(told_bed(kinds, mixed(chance, bed)), found)

    def lean(self, bed):
        some, many = bed
        for place in some:
            self.assertFalse(any(place[:2] == other[:2] and plain_within(place[2], other[2]) for other in many))
        for index, place in enumerate(many):
            self.assertFalse(any(place[:2] == other[:2] and plain_within(place[2], other[2])
                                 for at, other in enumerate(many) if at != index))
        for place in [*some, *many]:
            self.lean(place[2])

    def test_equal_just_if_the_same_stands_lie_in_both(self):
        chance = chance_of(221)
        for kinds in (LEVEL, PAIRS):
            heaps = all_heaps(kinds, 4)
            beds = [random_bed(chance, kinds, 2, inner=1) for _ in range(60)]
            forms = {}
            for bed in beds:
                inside = tuple(heap for heap in heaps if plain_in_bed(bed, heap))
                forms.setdefault(inside, []).append(bed)
            alike = 0
            for group in forms.values():
                for bed in group[1:]:
                    same = plain_within(bed, group[0]) and plain_within(group[0], bed)
                    self.assertEqual(told_bed(kinds, bed) == told_bed(kinds, group[0]), same)
                    alike += same
            self.assertGreater(alike, 5)
            told = [told_bed(kinds, group[0]) for group in forms.values()]
            self.assertEqual(len(set(told)), len(told))

    def test_forms(self):
        self.same_in_all_forms(told_bed, SHOPS, BED)
        self.same_in_all_forms(bed_within, SHOPS, BED, BED)
        self.same_in_all_forms(beds_met, SHOPS, BED, (BED[1], BED[0]))
        self.same_in_all_forms(greatest_beds, SHOPS, [BED, E, (BED[1], ())])
        self.new_each_time(beds_met, SHOPS, as_lists(BED), as_lists((BED[1], BED[0])))
        self.new_each_time(greatest_beds, SHOPS, as_lists([BED, E, (BED[1], BED[0])]))
        bed = as_lists(BED)
        self.new_each_time(told_bed, SHOPS, bed)


class Several(Case):

    def test_greatest_by_hand(self):
        beds = [((N,), ()), ((N, N), ()), ((P,), ()), ((N,), (P,)), ((P,), (P, N)), ((), (N,))]
        self.assertEqual(greatest_beds(ONE, beds), [((), (N, P))])
        self.assertEqual(greatest_beds(ONE, beds[:4]), [((N,), (P,)), ((N, N), ())])
        self.assertEqual(greatest_beds(ONE, [beds[0], ((N,), ()), ([N], [])]), [((N,), ())])
        self.assertEqual(greatest_beds(ONE, [([], [N, N]), ((N,), (N,))]), [((), (N,))])
        self.assertEqual(greatest_beds(kinds=ONE, beds=[]), [])
        self.assertEqual(greatest_beds(ONE, [E]), [E])

    def test_greatest_at_random(self):
        chance = chance_of(222)
        for _ in range(120):
            kinds = chance.choice(SOME)
            beds = [random_bed(chance, kinds, 1) for _ in range(chance.randint(0, 6))]
            beds += [mixed(chance, bed) for bed in beds[:2]]
            told = sorted({told_bed(kinds, bed) for bed in beds})
            wanted = [bed for bed in told if not any(plain_within(bed, other) for other in told if other != bed)]
            self.assertEqual(greatest_beds(kinds, beds), wanted)

    def test_met_by_hand(self):
        self.assertEqual(beds_met(ONE, ((N, N), (P,)), ((P,), (N,))), [((N, N, P), ())])
        self.assertEqual(beds_met(ONE, E, ((), (N, P))), [E])
        self.assertEqual(beds_met(ONE, ((N,), ()), ((P,), ())), [E])
        one, other = ("shop", "open", ((N,), ())), ("shop", "open", ((P,), ()))
        both = ("shop", "open", ((N, P), ()))
        self.assertEqual(beds_met(SHOPS, ((both,), ()), ((one, other), ())), [((one,), ()), ((other,), ())])
        self.assertEqual(beds_met(SHOPS, ((both, both), ()), ((one, other), ())), [((one, other), ())])
        self.assertEqual(beds_met(SHOPS, ((), (both,)), ((one,), (other,))), [((one,), (other,))])

    def test_met_at_random(self):
        """A stand lies in both just if it lies in one of those that are told; these are the greatest ones."""
        chance = chance_of(223)
        heaps = {id(kinds): all_heaps(kinds, 4) for kinds in (LEVEL, PAIRS, DENSE)}
        more = 0
        for _ in range(300):
            kinds = chance.choice([LEVEL, PAIRS, DENSE, DENSE])
            bed, cover = random_bed(chance, kinds, 2, inner=1), random_bed(chance, kinds, 2, inner=1)
            if kinds is DENSE:
                bed, cover = ([[["box", "a", random_bed(chance, kinds, 1, "box")] for _ in range(2)],
                               one[1][:1]] for one in (bed, cover))
            found = beds_met(kinds, bed, cover)
            more += len(found) > 1
            self.assertEqual(found, greatest_beds(kinds, found))
            self.assertEqual(beds_met(kinds, mixed(chance, cover), mixed(chance, bed)), found)
            for one in found:
                self.assertTrue(plain_within(one, bed) and plain_within(one, cover))
            for heap in heaps[id(kinds)]:
                wanted = plain_in_bed(bed, heap) and plain_in_bed(cover, heap)
                self.assertIs(any(plain_in_bed(one, heap) for one in found), wanted)
        self.assertGreater(more, 10)

    def test_limits(self):
        """Four pairs at each of two levels, three places in each list; two met of three places in all, one within each."""
        chance = chance_of(224)
        for _ in range(60):
            bed, cover = random_bed(chance, FOUR, 3), random_bed(chance, FOUR, 3)
            self.soon(told_bed, FOUR, bed)
            self.soon(bed_within, FOUR, bed, cover)
            self.soon(in_bed, FOUR, bed, random_stand(chance, FOUR, 40))
            self.soon(greatest_beds, FOUR, [random_bed(chance, FOUR, 3) for _ in range(10)])
            self.soon(beds_met, FOUR, random_bed(chance, FOUR, 2, inner=1), random_bed(chance, FOUR, 2, inner=1))
