"""[5.5], [5.6]: overlays."""

from anywithin.errors import BadKinds, BadMate, BadStand
from anywithin.least import is_above, least_ones
from anywithin.overlays import overlays
from anywithin.placings import lies_in
from tests.helpers import KINDS, SHOPS, WIDE, Case, Sour, all_heaps, as_lists, as_tuples, chance_of, plain_lies, \
    random_stand, shuffled, size, told

N, P = ("order", "new", ()), ("order", "sent", ())


def shops(*parts):
    return tuple(("shop", "open", part) for part in parts)


class Overlays(Case):

    def test_example(self):
        self.assertEqual(overlays(SHOPS, shops((N,)), shops((P,))), [shops((N,), (P,)), shops((N, P))])
        self.assertEqual(overlays(SHOPS, as_lists(shops((P,))), as_lists(shops((N,)))), [shops((N,), (P,)), shops((N,
            P))])
        self.new_each_time(overlays, SHOPS, as_lists(shops((N,))), as_lists(shops((P,))))

    def test_one_in_the_other(self):
        for less in all_heaps(SHOPS, 2):
            for more in all_heaps(SHOPS, 4)[::3]:
                if plain_lies(less, more):
                    self.assertEqual(overlays(SHOPS, less, more), [more])
                    self.assertEqual(overlays(kinds=SHOPS, stand=more, mate=less), [more])
        self.assertEqual(overlays(SHOPS, [], []), [()])

    def test_both_lie_exactly_in_what_is_above(self):
        for kinds in (SHOPS, KINDS):
            small, great = all_heaps(kinds, 2), all_heaps(kinds, 4)
            for one in small:
                within = [heap for heap in great if plain_lies(one, heap)]
                for other in small:
                    found = overlays(kinds, one, other)
                    self.assertEqual(found, least_ones(kinds, found))
                    both = [heap for heap in within if plain_lies(other, heap)]
                    self.assertEqual([heap for heap in great if is_above(kinds, found, heap)], both)

    def test_greater_ones(self):
        chance = chance_of(41)
        for _ in range(60):
            one, other = random_stand(chance, WIDE, 4, 1), random_stand(chance, WIDE, 4, 1)
            found = overlays(WIDE, one, other)
            self.assertEqual(found, sorted(found))
            self.assertEqual(found, least_ones(WIDE, found))
            self.assertEqual(overlays(WIDE, as_tuples(shuffled(chance, other)), shuffled(chance, one)), found)
            for heap in found:
                self.assertTrue(lies_in(WIDE, one, heap) and lies_in(WIDE, other, heap))
                self.assertLessEqual(size(heap), size(one) + size(other))
            # Side by side they stand above the list, and so does whatever has both in it.
            self.assertTrue(is_above(WIDE, found, [*one, *other]))
            heap = random_stand(chance, WIDE, 9, 1)
            both = lies_in(WIDE, one, heap) and lies_in(WIDE, other, heap)
            self.assertIs(is_above(WIDE, found, heap), both)

    def test_parts_of_unlike_ones_are_never_one(self):
        line = ("line", "ok", ())
        one = [("shop", "open", [("order", "new", [line])])]
        other = [("shop", "open", [("order", "paid", [line])])]
        self.assertEqual(overlays(KINDS, one, other), least_ones(KINDS, [
            told([*one, *other]), told([("shop", "open", [*one[0][2], *other[0][2]])])]))

    def test_four_records_each(self):
        alike = shops((), (), (), ())
        for one, other in ((alike, alike), (shops((N,), (N,)), shops((P,), (P,))), (shops((), (N, N)), shops((P,),
                (P,))),
                           (shops((N, N, P)), shops((N, P, P)))):
            found = self.soon(overlays, SHOPS, one, other)
            self.assertTrue(found)
        self.assertEqual(overlays(SHOPS, alike, alike), [alike])
        self.assertEqual(overlays(SHOPS, shops((N, N, P)), shops((N, P, P))),
                         [told(shops((N, N, P), (N, P, P))), shops((N, N, P, P))])

    def test_errors(self):
        good, bad = shops((N,)), [("shop", "open", [5])]
        for thing, index in ((None, 0), ([*good, 5], 1), (bad, 0), ("", 0), (Sour(), 0)):
            self.raised(BadStand, index, overlays, SHOPS, thing, None)
            self.raised(BadMate, index, overlays, SHOPS, good, thing)
        self.raised(BadKinds, None, overlays, None, None, None)
