"""[8.4], [8.5], [8.6]: sprouted, one beginning within another."""

from anywithin.beginnings import begins, told_beginning
from anywithin.errors import BadBeginning, BadKinds, BadMate, BadNumber, BadStand
from anywithin.placings import lies_in
from anywithin.sprouts import is_within, more_seeds, seeds_of, sprouted, stand_outside
from anywithin.stands import told_stand
from tests.helpers import (
    GREAT, KINDS, ROWS, SHOPS, WIDE, Case, Sour, all_heaps, as_lists, as_tuples, chance_of, cut, odd_things, paths,
    plain_begins, plain_lies, random_beginning, random_stand, shuffled, size, told, told_seeds, written,
)

N, S = ("order", "new", ()), ("order", "sent", ())
ONE = [("shop", "open", [("order", "new", [], True)], False)]
MANY = [("shop", "open", [("order", "new", [], True)], True)]


def shops(*parts):
    return tuple(("shop", "open", part) for part in parts)


def plain_sprouted(seeds, number):
    return told([(kind, mark, plain_sprouted(inner, number)) for kind, mark, inner, many in seeds
                 for _ in range(number if many else 1)])


def all_seeds(beginning):
    return sum(1 + all_seeds(seed[2]) for seed in beginning)


class Sprouted(Case):

    def test_example(self):
        self.assertEqual(sprouted(SHOPS, ONE, 2), shops((N, N)))
        self.assertIs(is_within(SHOPS, ONE, MANY), True)
        self.assertIs(is_within(SHOPS, MANY, ONE), False)
        self.assertEqual(stand_outside(SHOPS, MANY, ONE), shops((), ()))
        self.assertIsNone(stand_outside(SHOPS, ONE, MANY))

    def test_sprouted(self):
        self.assertEqual(sprouted(SHOPS, MANY, 2), shops((N, N), (N, N)))
        self.assertEqual(sprouted(SHOPS, MANY, 0), ())
        self.assertEqual(sprouted(SHOPS, ONE, 0), shops(()))
        self.assertEqual(sprouted(kinds=SHOPS, beginning=[], number=4), ())
        chance = chance_of(71)
        for _ in range(60):
            beginning = random_beginning(chance, WIDE, 5)
            for number in range(4):
                found = sprouted(WIDE, shuffled(chance, beginning), number)
                self.assertEqual(found, plain_sprouted(beginning, number))
                self.assertEqual(told_stand(WIDE, found), found)
                self.assertIs(begins(WIDE, beginning, found), True)
        self.new_each_time(sprouted, SHOPS, as_lists(MANY), 2)

    def test_a_stand_of_so_many_lies_in_it_exactly_if_it_begins(self):
        chance = chance_of(72)
        for kinds in (SHOPS, KINDS):
            heaps = all_heaps(kinds, 3)
            for _ in range(40):
                beginning = random_beginning(chance, kinds, 5)
                for number in range(4):
                    great = sprouted(kinds, beginning, number)
                    for heap in heaps:
                        if size(heap) <= number:
                            self.assertIs(plain_begins(beginning, heap), lies_in(kinds, heap, great))
                            self.assertIs(begins(kinds, beginning, heap), lies_in(kinds, heap, great))

    def test_greatest(self):
        seeds = [("shop", "open", [("order", "new", [("line", "ok", [], True)] * 6, True)], True)]
        found = self.soon(sprouted, KINDS, seeds, 4)
        self.assertEqual(size(found), 4 + 16 + 64 * 6)
        self.assertIs(self.soon(begins, KINDS, seeds, found), True)

    def test_errors(self):
        for number in (None, -1, True, False, 1.0, "1", [], Sour()):
            self.raised(BadNumber, number, sprouted, SHOPS, ONE, number)
        self.raised(BadBeginning, 1, sprouted, SHOPS, [*ONE, 5], None)
        self.raised(BadKinds, ROWS, sprouted, ROWS, None, None)


class Within(Case):

    def check(self, kinds, beginning, mate):
        """By [8.5], with so many of each as the mate has seeds, and one more."""
        great = sprouted(kinds, beginning, all_seeds(mate) + 1)
        wanted = begins(kinds, mate, great)
        self.assertIs(is_within(kinds, beginning, mate), wanted)
        outside = stand_outside(kinds, beginning, mate)
        self.assertEqual(outside is None, wanted)
        if outside is not None:
            self.assertEqual(told_stand(kinds, outside), outside)
            self.assertIs(begins(kinds, beginning, outside), True)
            self.assertIs(begins(kinds, mate, outside), False)
            for path in paths(outside):
                self.assertIs(begins(kinds, mate, cut(outside, path)), True)
        return wanted

    def test_at_random(self):
        chance = chance_of(73)
        right = 0
        for kinds in (SHOPS, KINDS, WIDE):
            for _ in range(250):
                beginning = random_beginning(chance, kinds, chance.randrange(5))
                mate = random_beginning(chance, kinds, chance.randrange(6))
                right += self.check(kinds, beginning, mate)
                self.assertTrue(self.check(kinds, beginning, shuffled(chance, [*beginning, *mate])))
        self.assertGreater(right, 60)

    def test_against_all_small_stands(self):
        chance = chance_of(74)
        heaps = all_heaps(SHOPS, 4)
        for _ in range(120):
            beginning, mate = random_beginning(chance, SHOPS, 3), random_beginning(chance, SHOPS, 3)
            outside = [heap for heap in heaps if plain_begins(beginning, heap) and not plain_begins(mate, heap)]
            if outside:
                self.assertIs(is_within(SHOPS, beginning, mate), False)
                self.assertIsNotNone(stand_outside(SHOPS, beginning, mate))

    def test_seeds_without_many_make_room(self):
        def beginning(*counts, many=False):
            return [("shop", "open", [("order", "new", [], False)] * count, many) for count in counts]

        self.assertTrue(self.check(SHOPS, beginning(1, 2), beginning(2, 2)))
        self.assertTrue(self.check(SHOPS, beginning(0, 1, 2), beginning(2, 1, 0)))
        self.assertFalse(self.check(SHOPS, beginning(1, 1, 2), beginning(2, 1, 0)))
        self.assertFalse(self.check(SHOPS, beginning(0, many=True), beginning(2, 2, 2)))
        self.assertTrue(self.check(SHOPS, beginning(2, 2), beginning(2, many=True)))
        self.assertFalse(self.check(SHOPS, beginning(2, 3, many=True), beginning(2, many=True)))
        self.assertTrue(self.check(SHOPS, [*beginning(1, many=True), *beginning(3)], [*beginning(1, many=True),
            *beginning(3)]))
        self.assertFalse(self.check(SHOPS, [*beginning(1, many=True), *beginning(3, 3)],
                                    [*beginning(1, many=True), *beginning(3)]))

    def test_edges(self):
        self.assertTrue(self.check(SHOPS, [], []))
        self.assertTrue(self.check(SHOPS, [], ONE))
        self.assertFalse(self.check(SHOPS, ONE, []))
        self.assertEqual(stand_outside(kinds=SHOPS, beginning=ONE, mate=[]), shops(()))
        self.assertIs(is_within(kinds=SHOPS, beginning=as_lists(ONE), mate=as_tuples(MANY)), True)

    def test_told_alike(self):
        chance = chance_of(75)
        for _ in range(40):
            beginning, mate = random_beginning(chance, KINDS, 5), random_beginning(chance, KINDS, 4)
            found = stand_outside(KINDS, beginning, mate)
            self.assertEqual(stand_outside(KINDS, shuffled(chance, beginning), as_tuples(shuffled(chance, mate))),
                found)
            self.new_each_time(stand_outside, KINDS, beginning, mate)

    def test_great_ones(self):
        def line(count):
            return [("line", "ok", [], True)] * count

        deep = [("shop", "open", [("order", "new", line(6), True)], True)]
        for mate in ([("shop", "open", [("order", "new", line(1), True)], False)] * 2,
                     [("shop", "open", [("order", "new", line(5)[:1], False)] * 3, False)] * 2,
                     [("shop", "open", [("order", "new", [("line", "ok", [], False)] * 6, True)], True)],
                     [("shop", "open", [("order", "new", [], True)], False)] * 4, [("shop", "open", [], False)] * 8):
            self.soon(self.check_great, deep, mate)

    def check_great(self, beginning, mate):
        outside = stand_outside(KINDS, beginning, mate)
        self.assertIs(is_within(KINDS, beginning, mate), False)
        self.assertIs(begins(KINDS, mate, outside), False)
        self.assertIs(begins(KINDS, beginning, outside), True)
        for path in paths(outside):
            self.assertIs(begins(KINDS, mate, cut(outside, path)), True)

    def test_errors(self):
        for call in (is_within, stand_outside, more_seeds):
            for bad, index in ((None, 0), ([*ONE, 5], 1), ("", 0), (Sour(), 0), ([("order", "new", [], True)], 0)):
                self.raised(BadBeginning, index, call, SHOPS, bad, None)
                self.raised(BadMate, index, call, SHOPS, ONE, bad)
            self.raised(BadKinds, ROWS, call, ROWS, None, None)
            for thing in odd_things():
                if written(thing) not in ("[]", "()"):
                    self.raised(BadMate, 0, call, SHOPS, ONE, thing)
        self.raised(BadNumber, -GREAT, sprouted, SHOPS, ONE, -GREAT)


class Seeds(Case):

    def test_seeds_of(self):
        self.assertEqual(seeds_of(SHOPS, shops((N, S))), (
            ("shop", "open", (("order", "new", (), False), ("order", "sent", (), False)), False),))
        self.assertEqual(seeds_of(kinds=SHOPS, stand=[]), ())
        chance = chance_of(76)
        heaps = all_heaps(SHOPS, 3)
        for _ in range(60):
            stand = random_stand(chance, SHOPS, 5)
            seeds = seeds_of(SHOPS, stand)
            self.assertEqual(told_beginning(SHOPS, seeds), seeds)
            self.assertEqual(seeds_of(SHOPS, shuffled(chance, stand)), seeds)
            for heap in heaps:
                self.assertIs(begins(SHOPS, seeds, heap), plain_lies(heap, told(stand)))
        self.raised(BadStand, 0, seeds_of, SHOPS, None)
        self.raised(BadStand, 1, seeds_of, SHOPS, [*shops(()), 5])
        self.raised(BadKinds, None, seeds_of, None, None)
        self.new_each_time(seeds_of, SHOPS, as_lists(shops((N, S))))

    def test_more_seeds(self):
        self.assertEqual(more_seeds(SHOPS, MANY, ONE), (*told_seeds(ONE), *told_seeds(MANY)))
        self.assertEqual(more_seeds(kinds=SHOPS, beginning=ONE, mate=ONE), told_seeds(ONE) * 2)
        self.assertEqual(more_seeds(SHOPS, [], []), ())
        chance = chance_of(77)
        for _ in range(60):
            beginning, mate = random_beginning(chance, WIDE, 4), random_beginning(chance, WIDE, 4)
            both = more_seeds(WIDE, beginning, as_tuples(mate))
            self.assertEqual(both, told_seeds([*beginning, *mate]))
            self.assertTrue(is_within(WIDE, beginning, both) and is_within(WIDE, mate, both))
        self.new_each_time(more_seeds, SHOPS, as_lists(ONE), as_lists(MANY))
