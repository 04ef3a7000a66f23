"""[21.4], [21.5], [21.7]: gardens and walls, each other's."""

from anywithin.beds import bed_within, greatest_beds
from anywithin.errors import BadStands
from anywithin.gardens import garden_fault, garden_of, wall_of
from anywithin.kinds import Kinds
from anywithin.least import least_ones
from tests.helpers import (
    Case, Sour, all_heaps, as_lists, as_tuples, chance_of, odd_things, plain_lies, random_stand, shuffled, size, told,
)
from tests.plots import DEEP, FOUR, LEVEL, ONE, PAIRS, SHOPS, E, is_told, mixed, plain_in_bed, plain_within, random_bed
from tests.test_beds import beds_lists, no_kinds
from tests.trials import plain_least

N, P = ("order", "new", E), ("order", "paid", E)
NEW, PAID = ("order", "new", ()), ("order", "paid", ())
TWICE = [((P,), (N,))]
APART = [((), (N,)), ((), (P,))]
STANDS = [("stands", thing, BadStands, index) for thing, index in (
    (None, 0), ("", 0), ({}, 0), (5, 0), (Sour(), 0), ([None], 0), ([[NEW], [PAID], [("nix", "a", [])]], 2), ([NEW], 0), ([[], 5], 1),
    ([[Sour()]], 0), ([[[]]], 0))]


def full(kinds, above=""):
    """The bed in which all lies, told."""
    return ((), tuple(sorted((kind, mark, full(kinds, kind)) for kind in kinds.parts(above) for mark in kinds.marks(kind))))


def sized(chance, kinds, many):
    """A stand of just so many records."""
    while True:
        heap = told(random_stand(chance, kinds, many))
        if size(heap) == many:
            return heap


class Gardens(Case):

    def test_example(self):
        self.assertEqual(garden_of(ONE, [[PAID, PAID]]), TWICE)
        self.assertEqual(garden_of(ONE, [[NEW, PAID]]), APART)
        self.assertEqual(wall_of(ONE, APART), [(NEW, PAID)])
        self.assertEqual(wall_of(ONE, TWICE), [(PAID, PAID)])

    def test_of_none(self):
        for kinds in (ONE, LEVEL, PAIRS, FOUR, DEEP):
            self.assertEqual(garden_of(kinds, []), [full(kinds)])
            self.assertEqual(wall_of(kinds, [full(kinds)]), [])
            self.assertEqual(garden_of(kinds, [[]]), [])
            self.assertEqual(wall_of(kinds, []), [()])
            self.assertEqual(garden_of(kinds, [random_stand(chance_of(1), kinds, 3), []]), [])
        bare = Kinds([])
        self.assertEqual((garden_of(bare, []), garden_of(bare, [[]])), ([E], []))
        self.assertEqual((wall_of(bare, []), wall_of(bare, [E])), ([()], []))

    def test_by_hand(self):
        shop = ("shop", "open", (NEW,))
        shut = ("shop", "shut", full(SHOPS, "shop"))
        opened = ("shop", "open", full(SHOPS, "shop"))
        paid = ("shop", "open", ((), (P,)))
        self.assertEqual(garden_of(SHOPS, [[shop]]), [((), (paid, shut))])
        self.assertEqual(garden_of(SHOPS, [[shop, shop]]), [((opened,), (paid, shut))])
        self.assertEqual(garden_of(SHOPS, [[("shop", "open", ())]]), [((), (shut,))])
        self.assertEqual(wall_of(SHOPS, [((opened,), (paid, shut))]), [(shop, shop)])
        self.assertEqual(wall_of(SHOPS, [E]), [(("shop", "open", ()),), (("shop", "shut", ()),)])
        # Shut ones never; one open one with what it may have, or open ones without new orders.
        self.assertEqual(wall_of(SHOPS, [((opened,), ()), ((), (paid,))]), [
            (("shop", "open", ()), shop), (("shop", "shut", ()),)])

    def test_one_is_so(self):
        """Each stand is above stands, or lies in one of the beds; no greater bed does; all are greatest."""
        chance = chance_of(225)
        heaps = {id(kinds): all_heaps(kinds, 4) for kinds in (LEVEL, PAIRS, DEEP)}
        for _ in range(60):
            kinds = chance.choice([LEVEL, PAIRS, DEEP])
            stands = [told(random_stand(chance, kinds, 3)) for _ in range(chance.randint(1, 3))]
            beds = garden_of(kinds, stands)
            self.assertTrue(all(is_told(bed) for bed in beds))
            self.assertEqual(beds, greatest_beds(kinds, beds))
            for heap in heaps[id(kinds)]:
                above = any(plain_lies(less, heap) for less in stands)
                self.assertEqual(above, not any(plain_in_bed(bed, heap) for bed in beds))
            self.assertEqual(wall_of(kinds, beds), least_ones(kinds, stands))
            # A bed in which none of stands lies is within one of these.
            for _ in range(8):
                bed = random_bed(chance, kinds, 2)
                if not any(plain_in_bed(bed, stand) for stand in stands):
                    self.assertTrue(any(plain_within(bed, one) for one in beds))
                else:
                    self.assertFalse(any(bed_within(kinds, bed, one) for one in beds))

    def test_walls(self):
        """The least stands that lie in none of the beds, by a look at all small ones; and their garden are the beds."""
        chance = chance_of(226)
        heaps = {id(kinds): all_heaps(kinds, 5) for kinds in (LEVEL, PAIRS)}
        for _ in range(40):
            kinds = chance.choice([LEVEL, PAIRS])
            beds = [random_bed(chance, kinds, 1) for _ in range(chance.randint(1, 2))]
            found = wall_of(kinds, beds)
            small = [heap for heap in heaps[id(kinds)] if not any(plain_in_bed(bed, heap) for bed in beds)]
            self.assertEqual([heap for heap in found if size(heap) <= 5], plain_least(small))
            self.assertEqual(found, sorted(found))
            self.assertEqual(garden_of(kinds, found), greatest_beds(kinds, beds))
            self.assertEqual(wall_of(kinds, [mixed(chance, bed) for bed in reversed(beds)]), found)

    def test_forms(self):
        chance = chance_of(227)
        stands = [[("shop", "open", [NEW, PAID]), ("shop", "shut", [])], [("shop", "shut", [PAID])]]
        wanted = self.same_in_all_forms(garden_of, SHOPS, stands)
        passed = [shuffled(chance, stand) for stand in [*stands[::-1], stands[0], [*stands[0], *stands[1]]]]
        self.assertEqual(garden_of(kinds=SHOPS, stands=passed), wanted)
        self.assertEqual(self.same_in_all_forms(wall_of, SHOPS, wanted), least_ones(SHOPS, stands))
        self.assertEqual(wall_of(kinds=SHOPS, beds=[mixed(chance, bed) for bed in wanted * 2]), least_ones(SHOPS, stands))
        self.new_each_time(garden_of, SHOPS, stands)
        self.new_each_time(wall_of, SHOPS, as_lists(wanted))

    def test_wrong(self):
        self.refuses(garden_of, {"kinds": ONE, "stands": [[NEW]]}, [*no_kinds(), *STANDS])
        self.refuses(garden_fault, {"kinds": ONE, "stands": [[NEW]], "thing": None}, [*no_kinds(), *STANDS])
        self.refuses(wall_of, {"kinds": SHOPS, "beds": [E]}, [*no_kinds(), *beds_lists()])

    def test_limits(self):
        """Two unlike stands of two or one of three, one twice; three of three of one level; walls of a bed, of a garden."""
        chance = chance_of(228)
        pairs = [PAIRS, Kinds([("box", "", ["a"], False), ("van", "", ["a"], True), ("egg", "box", ["x"], False), ("fig", "box", ["x"], False)])]
        for _ in range(60):
            kinds, sizes = chance.choice([(LEVEL, (3, 3, 3)), *[(pair, sizes) for pair in pairs for sizes in ((2, 2), (3,))]])
            stands = [sized(chance, kinds, many) for many in sizes]
            stands.append(shuffled(chance, stands[0]))
            beds = self.soon(garden_of, kinds, stands)
            self.assertEqual(self.soon(wall_of, kinds, beds), least_ones(kinds, stands))
            self.assertIsNone(self.soon(garden_fault, kinds, stands, beds))
            bed = random_bed(chance, kinds, 1 if kinds is not LEVEL else 2)
            wall = self.soon(wall_of, kinds, [bed])
            self.assertEqual(self.soon(garden_of, kinds, wall), greatest_beds(kinds, [bed]))


class Judged(Case):

    def test_right(self):
        chance = chance_of(229)
        for _ in range(40):
            kinds = chance.choice([LEVEL, PAIRS, SHOPS])
            stands = [told(random_stand(chance, kinds, 3)) for _ in range(chance.randint(0, 2))]
            beds = garden_of(kinds, stands)
            self.assertIsNone(garden_fault(kinds, stands, beds))
            passed = [mixed(chance, bed) for bed in beds]
            chance.shuffle(passed)
            for thing in (passed, as_tuples(passed), beds[::-1]):
                self.assertIsNone(garden_fault(kinds=kinds, stands=stands, thing=thing))
            # Not told, too: with places that others take.
            wide = [[[*bed[0], *bed[1][:1]], [*bed[1], *bed[1][:1]]] for bed in beds]
            self.assertIsNone(garden_fault(kinds, stands, wide))

    def test_by_hand(self):
        both = [[NEW, PAID]]
        for thing, wanted in (
            (None, ("form", 0)), ({}, ("form", 0)), ("", ("form", 0)), ([APART[0], 5], ("form", 1)), (APART[0], ("form", 0)),
            ([*APART, [], None], ("form", 2)),
            ([((), (N, P))], ("bed", 0, 0)), ([*APART, ((N, P), ())], ("bed", 2, 0)), ([((N,), (P,)), None], ("form", 1)),
            ([*APART, APART[0]], ("within", 0, 2)), ([APART[1], *APART], ("within", 0, 2)), ([APART[0], E], ("within", 1, 0)),
            ([E, E, APART[0]], ("within", 0, 1)), ([((P,), ()), *APART], ("within", 0, 2)),
            (APART[:1], ("lacks", (PAID,))), (APART[1:], ("lacks", (NEW,))), ([], ("lacks", ())), ([E], ("lacks", (NEW,))),
            ([((N,), ()), APART[1]], ("lacks", (NEW, NEW))), ([*APART[:1], ((P, P), ())], ("lacks", (PAID, PAID, PAID))),
        ):
            self.assertEqual(garden_fault(ONE, both, thing), wanted)
            if wanted[0] != "form":
                self.assertEqual(garden_fault(ONE, both, as_lists(thing)), wanted)
        # The first stand, as passed, that lies in the first bed in which one does.
        stands = [[PAID, PAID], [NEW, NEW, NEW], [PAID, PAID, PAID]]
        self.assertEqual(garden_fault(ONE, stands, [((P,), (N,)), ((), (P,))]), ("bed", 0, 1))
        self.assertEqual(garden_fault(ONE, stands, [((P,), (N, N)), ((), (P,))]), ("bed", 0, 1))
        self.assertEqual(garden_fault(ONE, stands, [((P,), ()), ((), (P,))]), ("bed", 1, 0))
        self.assertEqual(garden_fault(ONE, stands[::-1], [((P,), ()), ((), (P,))]), ("bed", 1, 0))
        self.assertEqual(garden_fault(ONE, [], []), ("lacks", ()))
        self.assertEqual(garden_fault(ONE, [[]], [E]), ("bed", 0, 0))
        self.assertIsNone(garden_fault(ONE, [[], [NEW]], []))

    def test_any_object(self):
        for thing in odd_things():
            right = isinstance(thing, (list, tuple)) and len(thing) == 0
            self.assertEqual(garden_fault(ONE, [[NEW]], thing)[0], "lacks" if right else "form")
            found = garden_fault(ONE, [[NEW, PAID]], [APART[0], thing])
            if isinstance(thing, (list, tuple)) and len(thing) == 2 and all(
                    isinstance(part, (list, tuple)) and len(part) == 0 for part in thing):
                self.assertEqual(found, ("within", 1, 0))
            else:
                self.assertEqual(found, ("form", 1))

    def plain_fault(self, kinds, stands, beds):
        """What is wrong, word by word, by a look at small stands."""
        for index, bed in enumerate(beds):
            for at, stand in enumerate(stands):
                if plain_in_bed(bed, stand):
                    return ("bed", index, at)
        for index, bed in enumerate(beds):
            for at, other in enumerate(beds):
                if at != index and plain_within(bed, other):
                    return ("within", index, at)
        for heap in wall_of(kinds, beds):
            if not any(plain_lies(stand, heap) for stand in stands):
                return ("lacks", heap)
        return None

    def test_bent(self):
        chance = chance_of(230)
        seen = {}
        for _ in range(250):
            kinds = chance.choice([LEVEL, PAIRS])
            stands = [told(random_stand(chance, kinds, 3)) for _ in range(chance.randint(1, 2))]
            beds = as_lists(garden_of(kinds, stands))
            for _ in range(chance.randint(1, 2)):
                if beds and chance.random() < 0.5:
                    at = chance.randrange(len(beds))
                    chance.choice([lambda: beds.pop(at), lambda: beds.append(beds[at]), lambda: beds[at][0].clear(),
                                   lambda: beds[at][1].clear()])()
                else:
                    beds.append(random_bed(chance, kinds, 1))
            found = garden_fault(kinds, stands, beds)
            self.assertEqual(found, self.plain_fault(kinds, stands, beds))
            seen[found and found[0]] = seen.get(found and found[0], 0) + 1
        self.assertTrue(all(seen.get(why, 0) > 5 for why in ("bed", "within", "lacks", None)), seen)
