"""[5.1], [5.2]: which stand lies in which."""

import itertools

from anywithin.errors import BadKinds, BadLess, BadMore
from anywithin.placings import lies_in, placing, placing_fault
from tests.helpers import (
    GREAT, KINDS, SHOPS, WIDE, Case, Sour, all_heaps, as_lists, as_tuples, chance_of, odd_things, paths, plain_lies,
    random_stand, shuffled, told,
)

KIND = SHOPS
N, P = ("order", "new", ()), ("order", "sent", ())


def shops(*parts):
    return tuple(("shop", "open", part) for part in parts)


LESS, MORE = shops((N,), (N, N)), shops((N, N, N), (N, P))
PLACES = {(0,): (1,), (0, 0): (1, 0), (1,): (0,), (1, 0): (0, 0), (1, 1): (0, 1)}


class Lies(Case):

    def test_example(self):
        self.assertIs(lies_in(KIND, LESS, MORE), True)
        found = placing(KIND, LESS, MORE)
        self.assertEqual({path: found[path] for path in ((0,), (0, 0), (1,))}, {(0,): (1,), (0, 0): (1, 0), (1,): (0,)})
        self.assertEqual(list(found), list(PLACES))
        self.assertIsNone(placing_fault(KIND, LESS, MORE, found))
        self.assertIsNone(placing_fault(KIND, LESS, MORE, PLACES))
        both = shops((N, N), (N, N))
        self.assertIs(lies_in(KIND, both, MORE), False)
        self.assertIsNone(placing(KIND, both, MORE))

    def test_nothing_lies_in_all(self):
        for more in ([], MORE, ()):
            self.assertIs(lies_in(kinds=KIND, less=[], more=more), True)
            self.assertEqual(placing(kinds=KIND, less=[], more=more), {})
        self.assertIs(lies_in(KIND, MORE, []), False)
        self.assertIsNone(placing(KIND, MORE, []))

    def test_against_all_ways(self):
        for kinds, most in ((KINDS, 4), (SHOPS, 4)):
            heaps = all_heaps(kinds, most)
            for index, less in enumerate(heaps):
                for more in heaps[index % 7::7]:
                    self.check(kinds, less, more, plain_lies(less, more))

    def test_against_all_ways_at_random(self):
        chance = chance_of(11)
        for _ in range(400):
            less = told(random_stand(chance, WIDE, chance.randrange(6), 1))
            more = told(random_stand(chance, WIDE, chance.randrange(9), 1))
            self.check(WIDE, less, more, plain_lies(less, more))

    def check(self, kinds, less, more, wanted):
        self.assertIs(lies_in(kinds, less, more), wanted)
        found = placing(kinds, less, more)
        self.assertEqual(found is not None, wanted)
        if wanted:
            self.assertEqual(list(found), paths(less))
            self.assertIsNone(placing_fault(kinds, less, more, found))

    def test_alike_ones_are_told_alike(self):
        chance = chance_of(12)
        for _ in range(60):
            more = random_stand(chance, WIDE, 12)
            less = random_stand(chance, WIDE, 3)
            found = placing(WIDE, less, more)
            self.assertEqual(placing(WIDE, shuffled(chance, less), as_tuples(shuffled(chance, more))), found)
            self.assertEqual(placing(WIDE, told(less), told(more)), found)
        self.new_each_time(placing, KIND, as_lists(LESS), as_lists(MORE))

    def test_errors(self):
        bad = [("shop", "open", []), ("shop", "open", [5])]
        for call, rest in ((lies_in, ()), (placing, ()), (placing_fault, (None,))):
            for thing in (None, Sour()):
                self.raised(BadKinds, thing, call, thing, None, None, *rest)
            for stand, index in ((bad, 1), (None, 0), ("", 0), ({}, 0), ([5], 0)):
                self.raised(BadLess, index, call, KIND, stand, None, *rest)
                self.raised(BadMore, index, call, KIND, [], stand, *rest)

    def test_great_stands(self):
        alike = shops(*[()] * 40)
        chain = [("shop", "open", [N] * 39)]
        for less, more, wanted in (
            (alike, alike, True), (alike, alike[1:], False), (chain, chain, True), (alike, chain, False),
            (chain, [("shop", "open", [P] * 39)], False), (shops(*[(N,)] * 20), shops(*[(N,)] * 19, (P,)), False),
            (shops(*[(N,) * count for count in range(8)]), shops(*[(N,) * count for count in range(8)][::-1]), True),
            (shops(*[(N,)] * 13), shops(*[(P,)] * 13, *[()] * 14), False),
            ([("shop", "open", [])] * 60, alike, False),
        ):
            self.assertIs(self.soon(lies_in, KIND, less, more), wanted)
            found = self.soon(placing, KIND, less, more)
            self.assertEqual(found is not None, wanted)
            if wanted:
                self.assertIsNone(self.soon(placing_fault, KIND, less, more, found))

    def test_others_have_to_make_room(self):
        # Whoever takes the first fitting place for each is wrong here.
        less = shops((), (N,), (N, N), (P,))
        more = shops((N,), (N, P), (N, N), (N, N, P))
        self.check(KIND, told(less), told(more), True)
        for count in (3, 6):
            less = shops(*[(N,) * number for number in range(count)])
            more = shops(*[(N,) * number for number in range(count)])
            self.check(KIND, told(less), told(more), True)
            self.check(KIND, told(shops(*[(N,) * number for number in range(1, count + 1)])), told(more), False)


class Judged(Case):

    def test_faults(self):
        for change, fault in (
            ({(1, 1): (0, 0)}, ("twice", (1, 1))), ({(0, 0): (0,)}, ("kind", (0, 0))),
            ({(0, 0): (1,)}, ("twice", (0, 0))), ({(1,): (1,)}, ("twice", (1,))),
            ({(0,): (1, 0)}, ("kind", (0,))), ({(0, 0): (1, 1)}, ("kind", (0, 0))), ({(0, 0): (0, 2)}, ("lies", (0,
            0))),
            ({(1, 1): (0, 2)}, None), ({(1, 0): (1, 0)}, ("twice", (1, 0))), ({(0,): (0,), (1,): (1,)}, ("lies", (0,
            0))),
            # The first path that is wrong, and there the first of the words.
            ({(0, 0): (0, 2), (1, 1): (0, 0)}, ("lies", (0, 0))), ({(0, 0): (0,), (1,): (1,)}, ("kind", (0, 0))),
            ({(1, 0): (1,)}, ("twice", (1, 0))), ({(1, 0): (1, 1)}, ("kind", (1, 0))),
        ):
            self.assertEqual(placing_fault(KIND, LESS, MORE, {**PLACES, **change}), fault)
        self.assertEqual(placing_fault(KIND, [], MORE, {}), None)

    def test_a_top_goes_to_a_top(self):
        chain = [("shop", "open", ())]
        self.assertIsNone(placing_fault(KIND, chain, chain, {(0,): (0,)}))
        # An order as high as the told path says can be no place of a shop, so "kind" goes ahead of "lies".
        self.assertEqual(placing_fault(KIND, chain, MORE, {(0,): (0, 0)}), ("kind", (0,)))

    def test_form(self):
        for thing in odd_things():
            self.assertEqual(placing_fault(kinds=KIND, less=LESS, more=MORE, thing=thing), ("form", ()))
        for change in ({(2,): (0,)}, {(): ()}, {0: (0,)}, {(0, 0): (2,)}, {(0, 0): ()}, {(0, 0): None}, {(0, 0): 0},
                       {(0, 0): "00"}, {(0, 0): (True,)}, {(0, 0): (1, False)}, {(0, 0): (-1,)}, {(0, 0): (1.0, 0)},
                       {(0, 0): (GREAT,)}, {(0, 0): {1: 0}}, {(0, 0): Sour()}, {Sour(): (0,)}, {(0, 0): ([1], 0)}):
            self.assertEqual(placing_fault(KIND, LESS, MORE, {**PLACES, **change}), ("form", ()))
        for path in PLACES:
            fewer = {key: PLACES[key] for key in PLACES if key != path}
            self.assertEqual(placing_fault(KIND, LESS, MORE, fewer), ("form", ()))
            # True and 1.0 are no NUMBERS, though they are keys like 1.
            for other in (tuple(bool(index) for index in path), tuple(float(index) for index in path), (5,), (), 5, "a",
                          (0, 0, 0), None, ((0,),), Sour(), (Sour(),)):
                self.assertEqual(placing_fault(KIND, LESS, MORE, {**fewer, other: PLACES[path]}), ("form", ()))
        for thing in ({}, [], {(0,): (0,)}):
            self.assertEqual(placing_fault(KIND, [], MORE, thing), None if thing == {} else ("form", ()))

    def test_forms(self):
        other = {path: list(PLACES[path]) for path in reversed(list(PLACES))}
        before = {path: list(place) for path, place in other.items()}
        self.assertIsNone(placing_fault(KIND, as_lists(LESS[::-1]), as_tuples(MORE), other))
        self.assertEqual(other, before)

    def test_each_wrong_placing_is_found(self):
        # All dicts of paths to paths are tried; just those are right that a plain look finds so.
        less, more = shops((N,), ()), shops((N, P), ())
        less, more = told(less), told(more)
        right = 0
        for way in itertools.product(paths(more), repeat=len(paths(less))):
            thing = dict(zip(paths(less), way))
            good = len(set(way)) == len(way) and all(
                look(less, path)[:2] == look(more, place)[:2]
                and place[:-1] == (thing[path[:-1]] if len(path) > 1 else ()) for path, place in thing.items())
            self.assertEqual(placing_fault(KIND, less, more, thing) is None, good)
            right += good
        self.assertEqual(right, 1)


def look(heap, path):
    row = None
    for index in path:
        row = heap[index]
        heap = row[2]
    return row
