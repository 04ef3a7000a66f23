"""[17.2]: lists that meet all of some lists."""

import itertools

from anywithin.meeting import least_meeting
from anywithin.refusals import BadLots
from tests.helpers import GREAT, Case, Sour, as_tuples, chance_of, odd_things, written


def plain_meeting(lots):
    """The least of all lists that meet each of lots, by a trial of all."""
    things = sorted({thing for lot in lots for thing in lot})
    every = [list(one) for many in range(len(things) + 1) for one in itertools.combinations(things, many)]
    meets = [one for one in every if all(set(one) & set(lot) for lot in lots)]
    return sorted(one for one in meets if not any(set(less) < set(one) for less in meets))


class Meeting(Case):

    def test_ordinary(self):
        self.assertEqual(least_meeting([["a", "b"], ["b", "c"]]), [["a", "c"], ["b"]])
        self.assertEqual(least_meeting([[0, 1]]), [[0], [1]])
        self.assertEqual(least_meeting([[0], [1]]), [[0, 1]])
        self.assertEqual(least_meeting([["gift"], ["pay", "take"]]), [["gift", "pay"], ["gift", "take"]])

    def test_ends(self):
        self.assertEqual(least_meeting([]), [[]])
        self.assertEqual(least_meeting([[]]), [])
        self.assertEqual(least_meeting([["a"], []]), [])
        self.assertEqual(least_meeting([[], [1, 2]]), [])
        self.assertEqual(least_meeting([[GREAT]]), [[GREAT]])
        self.assertEqual(least_meeting([["", "a b", "~"]]), [[""], ["a b"], ["~"]])
        self.assertEqual(least_meeting([["b"], ["b"], ["a", "b"]]), [["b"]])
        self.assertEqual(least_meeting([[2, 10], [9, 10]]), [[2, 9], [10]])

    def test_forms(self):
        lots = [["a", "b"], ["b", "c"], ["c", "d"]]
        wanted = self.same_in_all_forms(least_meeting, lots)
        self.assertEqual(least_meeting(lots=as_tuples(lots[::-1])), wanted)
        self.new_each_time(least_meeting, lots)
        self.assertTrue(all(type(one) is list for one in wanted))

    def test_wrong(self):
        for thing, index in ((None, 0), ("ab", 0), ("", 0), ({}, 0), (5, 0), (Sour(), 0), ([None], 0), ([["a"], "b"], 1),
                             ([["a"], ["b", "a"]], 1), ([["a"], ["a", "a"]], 1), ([[], [True]], 1), ([[0], [-1]], 1),
                             ([["a", 1]], 0), ([[1, "a"]], 0), ([["a"], [], [1]], 2), ([[1], ["a"], 5], 1),
                             ([[], [1], ["a"]], 2), ([[1.0]], 0), ([["a"], [None]], 1), ([[Sour()]], 0), ([{}], 0),
                             ([{"a": 1}], 0), ([b"ab"], 0), ([[b"ab"]], 0), ([[1, 1]], 0), ([[10, 9]], 0),
                             ([["b", "a"], 5], 0), ([[["a"]]], 0), ([["a"]] * 3 + [["a", "b", "a"]], 3)):
            self.raised(BadLots, index, least_meeting, thing)
            self.raised(BadLots, index, least_meeting, lots=thing)
        for thing in odd_things():
            if not isinstance(thing, (list, tuple)):
                self.raised(BadLots, 0, least_meeting, thing)
            if written(thing) not in ("[]", "()", "[0]", "['']", "['shop']"):
                bad = thing if isinstance(thing, (list, tuple)) else [thing]
                if not all(type(one) is str or type(one) is int and one >= 0 for one in bad):
                    self.raised(BadLots, 1, least_meeting, [[], bad])

    def test_against_all_lists(self):
        chance = chance_of(171)
        for _ in range(200):
            things = chance.choice(["abcdef", [0, 1, 2, 9, 10, 11]])
            lots = [sorted(chance.sample(things, chance.randint(0 if chance.random() < 0.1 else 1, 4)))
                    for _ in range(chance.randint(0, 6))]
            found = least_meeting(lots)
            self.assertEqual(found, plain_meeting(lots))
            # Done twice: those of lots, each once, of which no unlike one is a part.
            unlike = sorted([list(one) for one in {tuple(lot) for lot in lots}])
            self.assertEqual(least_meeting(found), [one for one in unlike
                                                    if not any(set(less) < set(one) for less in unlike)])

    def test_limits(self):
        names = [f"a{number}" for number in range(9)]
        lots = [names[start:start + 3] for start in range(7)]
        self.assertEqual(self.soon(least_meeting, lots), plain_meeting(lots))
        self.assertEqual(len(self.soon(least_meeting, [["a", "b"], ["c", "d"], ["e", "f"], ["g", "h"], ["i", "j"]])), 32)
