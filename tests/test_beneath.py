"""The stands beneath: told apart by counts, but never wrongly."""

from anywithin.beneath import Beneath
from tests.helpers import WIDE, Case, all_heaps, chance_of, plain_lies, random_stand, told


class Stands(Case):

    def test_against_all_ways(self):
        chance = chance_of(181)
        heaps = all_heaps(WIDE, 3)
        above = 0
        for _ in range(300):
            few = chance.sample(heaps, chance.randint(0, 3))
            beneath = Beneath(few)
            for _ in range(5):
                heap = told(random_stand(chance, WIDE, 6))
                wanted = any(plain_lies(less, heap) for less in few)
                self.assertIs(beneath.has_above(heap), wanted)
                above += wanted
        self.assertGreater(above, 100)

    def test_ends(self):
        self.assertIs(Beneath([]).has_above(()), False)
        self.assertIs(Beneath([()]).has_above(()), True)
        self.assertIs(Beneath([()]).has_above((("bin", "a", ()),)), True)
        self.assertIs(Beneath([(("bin", "a", ()),)]).has_above(()), False)

    def test_what_counts_do_not_tell(self):
        """As many of each, but not in the same one."""
        x, y = ("cup", "x", ()), ("cup", "y", ())
        less = (("bin", "a", (x, y)),)
        self.assertIs(Beneath([less]).has_above((("bin", "a", (x,)), ("bin", "a", (y,)))), False)
        self.assertIs(Beneath([less]).has_above((("bin", "a", (x,)), ("bin", "a", (x, y)))), True)

    def test_very_many_alike(self):
        """More than a count can tell."""
        for many in (32766, 32767, 32768, 40000, 65535, 65536, 70000):
            heap = (("bin", "a", ()),) * many
            both = Beneath([(("can", "c", ()),), heap])
            self.assertIs(both.has_above(heap), True)
            self.assertIs(both.has_above(heap[1:]), False)
            self.assertIs(both.has_above((*heap[:100], ("can", "c", ()))), True)
