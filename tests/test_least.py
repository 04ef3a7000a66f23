"""[5.4]: least ones, and what is above them."""

from anywithin.errors import BadKinds, BadStand, BadStands
from anywithin.least import is_above, least_ones
from anywithin.placings import lies_in
from tests.helpers import (
    KINDS, ROWS, SHOPS, WIDE, Case, Sour, all_heaps, as_lists, as_tuples, chance_of, odd_things, plain_lies,
    random_stand, shuffled, told,
)

N, P = ("order", "new", ()), ("order", "sent", ())


def shops(*parts):
    return tuple(("shop", "open", part) for part in parts)


class Least(Case):

    def test_plain(self):
        stands = [shops((N, N)), shops((N,)), shops((P,), (N,)), shops((P, P)), shops((N,))]
        self.assertEqual(least_ones(SHOPS, stands), [shops((N,)), shops((P, P))])
        self.assertEqual(least_ones(kinds=SHOPS, stands=as_lists(stands)[::-1]), [shops((N,)), shops((P, P))])
        self.assertEqual(least_ones(SHOPS, []), [])
        self.assertEqual(least_ones(SHOPS, [[], shops(())]), [()])
        self.assertEqual(least_ones(SHOPS, [shops((), (N,)), [("shop", "open", [N]), ("shop", "open", [])]]),
            [shops((), (N,))])
        self.new_each_time(least_ones, SHOPS, as_lists(stands))

    def test_against_all_ways(self):
        chance = chance_of(31)
        heaps = all_heaps(SHOPS, 4)
        for _ in range(150):
            some = [chance.choice(heaps) for _ in range(chance.randrange(9))]
            passed = [shuffled(chance, heap) for heap in some]
            wanted = sorted({heap for heap in some if not any(plain_lies(one, heap) and one != heap for one in some)})
            found = least_ones(SHOPS, passed)
            self.assertEqual(found, wanted)
            stand = chance.choice(heaps)
            above = any(plain_lies(one, stand) for one in some)
            self.assertIs(is_above(SHOPS, passed, shuffled(chance, stand)), above)
            # The same stands are above a list and above its least ones.
            self.assertIs(is_above(SHOPS, found, stand), above)

    def test_alike_exactly_if_each_lies_in_the_other(self):
        heaps = all_heaps(KINDS, 3)
        for one in heaps:
            for other in heaps:
                both = lies_in(KINDS, one, other) and lies_in(KINDS, other, one)
                self.assertIs(both, one == other)

    def test_same_above_exactly_if_same_least(self):
        chance = chance_of(32)
        heaps = all_heaps(SHOPS, 3)
        lists = [[chance.choice(heaps) for _ in range(3)] for _ in range(40)]
        for one in lists[:20]:
            for other in lists[20:]:
                same = all(is_above(SHOPS, one, heap) == is_above(SHOPS, other, heap) for heap in heaps)
                self.assertIs(same, least_ones(SHOPS, one) == least_ones(SHOPS, other))

    def test_some_one_lies_in_a_later_one(self):
        chance = chance_of(33)
        stands = [told(random_stand(chance, SHOPS, 6)) for _ in range(60)]
        self.assertTrue(any(lies_in(SHOPS, stands[i], stands[j]) for i in range(60) for j in range(i + 1, 60)))

    def test_is_above(self):
        self.assertIs(is_above(SHOPS, [], shops((N,))), False)
        self.assertIs(is_above(SHOPS, [[]], []), True)
        self.assertIs(is_above(kinds=SHOPS, stands=[shops((N, N)), shops((P,))], stand=shops((N,), (P,))), True)
        self.assertIs(is_above(SHOPS, as_tuples([shops((N, N))]), shops((N,), (N,))), False)

    def test_errors(self):
        good, bad = shops((N,)), [("shop", "open", [5])]
        for stands, index in ((None, 0), ("", 0), ({}, 0), (Sour(), 0), ([bad], 0), ([good, [], bad, 5], 2), ([good,
                None], 1),
                              ([good, good, "a"], 2), ([[5]], 0)):
            self.raised(BadStands, index, least_ones, SHOPS, stands)
            self.raised(BadStands, index, is_above, SHOPS, stands, None)
        for stand, index in ((None, 0), ([*good, 5], 1)):
            self.raised(BadStand, index, is_above, SHOPS, [good], stand)
        self.raised(BadKinds, ROWS, least_ones, ROWS, None)
        self.raised(BadKinds, None, is_above, None, None, None)
        for thing in odd_things():
            if not isinstance(thing, (list, tuple)):
                self.raised(BadStands, 0, least_ones, SHOPS, thing)

    def test_great_lists(self):
        chance = chance_of(34)
        for marks in (1, 2):
            stands = [random_stand(chance, WIDE, 40, marks) for _ in range(40)]
            found = self.soon(least_ones, WIDE, stands)
            self.assertLessEqual(len(found), 40)
            self.soon(is_above, WIDE, stands, stands[0])
        alike = [shops(*[(N,)] * 20)] * 40
        self.assertEqual(self.soon(least_ones, SHOPS, alike), alike[:1])
        # None of these lies in another one: more shops, fewer orders in each.
        stands = [shops(*[(N,) * (40 // many - 1)] * many) for many in (1, 2, 3, 4, 5, 6, 8, 10, 13, 20, 40)]
        self.assertEqual(self.soon(least_ones, SHOPS, stands), sorted(told(stand) for stand in stands))
