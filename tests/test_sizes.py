"""[4.5]: all stands of one size."""

from anywithin.errors import BadKinds, BadMany
from anywithin.kinds import Kinds
from anywithin.sizes import all_stands, count_stands
from anywithin.stands import told_stand
from tests.helpers import KINDS, SHOPS, WIDE, Case, Sour, all_heaps, size


class Sizes(Case):

    def test_example(self):
        self.assertEqual([count_stands(KINDS, many) for many in range(4)], [1, 2, 7, 22])
        two = all_stands(KINDS, 2)
        self.assertEqual(two[0], (("shop", "open", ()), ("shop", "open", ())))
        self.assertEqual(two[-1], (("shop", "shut", (("order", "paid", ()),)),))

    def test_against_all(self):
        for kinds in (KINDS, SHOPS, WIDE, Kinds([]), Kinds([("a", "", ["x"], False)])):
            heaps = all_heaps(kinds, 4)
            for many in range(5):
                wanted = sorted(heap for heap in heaps if size(heap) == many)
                found = all_stands(kinds, many)
                self.assertEqual(found, wanted)
                self.assertEqual(count_stands(kinds, many), len(wanted))
                for heap in found:
                    self.assertEqual(told_stand(kinds, heap), heap)
        self.new_each_time(all_stands, KINDS, 3)

    def test_none(self):
        self.assertEqual(all_stands(kinds=KINDS, many=0), [()])
        self.assertEqual(count_stands(kinds=KINDS, many=0), 1)
        self.assertEqual(all_stands(Kinds([]), 1), [])
        self.assertEqual(count_stands(Kinds([]), 5), 0)

    def test_counts_of_one_kind(self):
        kinds = Kinds([("a", "", ["x", "y", "z"], False)])
        self.assertEqual([count_stands(kinds, many) for many in range(6)], [1, 3, 6, 10, 15, 21])
        self.assertEqual(count_stands(kinds, 30), 496)
        chain = Kinds([("a", "", ["x"], False), ("b", "a", ["x"], False)])
        # Heaps of a's with heaps of b's: the partitions of a number.
        self.assertEqual([count_stands(chain, many) for many in range(11)], [1, 1, 2, 3, 5, 7, 11, 15, 22, 30, 42])
        self.assertEqual(count_stands(chain, 30), 5604)

    def test_greatest(self):
        rows = [("k%d" % index, "" if index == 0 else "k%d" % ((index - 1) // 2 if index > 5 else index - 1),
                 ["a", "b", "c", "d", "e"], False) for index in range(10)]
        many = self.soon(count_stands, Kinds(rows), 30)
        self.assertGreater(many, 10 ** 20)
        three = Kinds([("a", "", ["x", "y"], False), ("b", "", ["x", "y"], False), ("c", "", ["x", "y"], False)])
        self.assertEqual(len(self.soon(all_stands, three, 4)), 126)
        self.assertEqual(count_stands(three, 30), 324632)

    def test_errors(self):
        for many in (None, -1, True, False, 1.0, "1", [], Sour()):
            self.raised(BadMany, many, all_stands, KINDS, many)
            self.raised(BadMany, many, count_stands, KINDS, many)
        self.raised(BadKinds, None, all_stands, None, -1)
        self.raised(BadKinds, None, count_stands, None, -1)
