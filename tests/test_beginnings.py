"""[8.1], [8.2], [8.3], [8.6]: beginnings, sowings, lacks."""

import itertools

from anywithin.beginnings import begins, is_beginning, lack, lack_fault, sowing, sowing_fault, told_beginning
from anywithin.errors import BadBeginning, BadKinds, BadStand
from tests.helpers import (
    GREAT, KINDS, ROWS, SHOPS, WIDE, Case, Sour, all_heaps, as_lists, as_tuples, at, chance_of, mutables, odd_things,
    paths, plain_begins, random_beginning, random_stand, shuffled, told, told_seeds, written,
)

N, S = ("order", "new", ()), ("order", "sent", ())
ONE = [("shop", "open", [("order", "new", [], True)], False)]
MANY = [("shop", "open", [("order", "new", [], True)], True)]
STAND = [("shop", "open", [N, N])]
SOWN = {(0,): (0,), (0, 0): (0, 0), (0, 1): (0, 0)}


def shops(*parts):
    return [("shop", "open", list(part)) for part in parts]


class Beginnings(Case):

    def test_beginnings(self):
        for good in ([], (), ONE, MANY, as_lists(ONE), as_tuples(MANY), [*ONE, *ONE], [("shop", "shut", (), False)]):
            self.assertIs(is_beginning(SHOPS, good), True)
        for bad in ([("order", "new", [], False)], [("shop", "new", [], False)], [("shop", "open", [], 0)],
                    [("shop", "open", [], 1)], [("shop", "open", [], None)], [("shop", "open", [])], STAND,
                    [("shop", "open", [], False, 1)], [("shop", "open", None, False)], [("shop", "open", "", False)],
                    [("shop", "open", [("shop", "open", [], False)], False)], [("shop", "open", [N], False)],
                    ["shop"], "abc", [("shop", "open", {}, True)], [("shop", ["open"], [], True)], [(["shop"], "open",
                    [], True)],
                    [("shop", "open", [("order", "new", [], 5)], True)], {0: ONE[0]}, ONE[0]):
            self.assertIs(is_beginning(kinds=SHOPS, thing=bad), False)
        for thing in odd_things():
            self.assertIs(is_beginning(SHOPS, thing), written(thing) in ("[]", "()"))
            self.assertIs(is_beginning(SHOPS, [("shop", "open", thing, True)]), written(thing) in ("[]", "()"))
            self.assertIs(is_beginning(SHOPS, [("shop", "open", [], thing)]), isinstance(thing, bool))
        self.raised(BadKinds, None, is_beginning, None, None)

    def test_told(self):
        chance = chance_of(61)
        for count in range(80):
            beginning = random_beginning(chance, WIDE, count % 9)
            wanted = told_seeds(beginning)
            for form in (beginning, shuffled(chance, beginning), as_tuples(beginning), wanted):
                self.assertEqual(told_beginning(WIDE, form), wanted)
            self.new_each_time(told_beginning, WIDE, beginning)
        twins = [("shop", "open", [], True), ("shop", "open", [], False), ("shop", "open", [("order", "new", [],
            False)], False)]
        self.assertEqual(told_beginning(kinds=SHOPS, beginning=twins), (
            ("shop", "open", (), False), ("shop", "open", (), True), ("shop", "open", (("order", "new", (), False),),
            False)))
        self.assertEqual(told_beginning(SHOPS, []), ())

    def test_bad_beginning(self):
        for beginning, index in ((None, 0), ("", 0), ({}, 0), (Sour(), 0), ([*ONE, 5], 1), ([*ONE, STAND[0]], 1),
                                 ([*ONE, ("shop", "open", [("order", "new", [], 1)], True), 5], 1),
                                 ([("order", "new", [], True)], 0)):
            for call, rest in ((told_beginning, 0), (begins, 1), (sowing, 1), (sowing_fault, 2), (lack, 1),
                    (lack_fault, 2)):
                self.raised(BadBeginning, index, call, SHOPS, beginning, *[None] * rest)
        for call, rest in ((begins, 0), (sowing, 0), (sowing_fault, 1), (lack, 0), (lack_fault, 1)):
            for stand, index in ((None, 0), ([*STAND, 5], 1), (ONE, 0)):
                self.raised(BadStand, index, call, SHOPS, ONE, stand, *[None] * rest)
            self.raised(BadKinds, ROWS, call, ROWS, None, None, *[None] * rest)
        self.raised(BadKinds, None, told_beginning, None, None)


class Sowings(Case):

    def test_example(self):
        self.assertIs(begins(SHOPS, ONE, STAND), True)
        self.assertEqual(sowing(SHOPS, ONE, STAND), SOWN)
        self.assertIsNone(sowing_fault(SHOPS, ONE, STAND, SOWN))
        two, sent = shops([], []), shops([S])
        self.assertIs(begins(SHOPS, ONE, two), False)
        self.assertEqual(lack(SHOPS, ONE, two), ([0, 1], [0], {}))
        self.assertEqual(lack(SHOPS, ONE, sent), ([0], [], {(0, 0): ([0], [], {})}))
        for stand, wanted in ((STAND, True), (two, True), (sent, False)):
            self.assertIs(begins(SHOPS, MANY, stand), wanted)

    def test_edges(self):
        self.assertIs(begins(kinds=SHOPS, beginning=[], stand=[]), True)
        self.assertEqual(sowing(kinds=SHOPS, beginning=ONE, stand=[]), {})
        self.assertIsNone(lack(SHOPS, [], []))
        self.assertIs(begins(SHOPS, [], shops([])), False)
        self.assertEqual(lack(SHOPS, [], shops([])), ([0], [], {}))
        # Also a record that lasts may lack.
        self.assertIs(begins(KINDS, [("shop", "open", [], False)], []), True)

    def check(self, kinds, beginning, stand):
        """Just one of a sowing and a lack is there, and each is judged right."""
        wanted = plain_begins(beginning, stand)
        self.assertIs(begins(kinds, beginning, stand), wanted)
        found, lacks = sowing(kinds, beginning, stand), lack(kinds, beginning, stand)
        self.assertEqual((found is not None, lacks is not None), (wanted, not wanted))
        if wanted:
            self.assertEqual(list(found), paths(told(stand)))
            self.assertTrue(all(type(place) is tuple for place in found.values()))
            self.assertIsNone(sowing_fault(kinds, beginning, stand, found))
        else:
            self.assertIsNone(lack_fault(kinds, beginning, stand, lacks))
            self.rising(lacks)
            parts = mutables(lacks)
            self.assertEqual(len({id(part) for part in parts}), len(parts))
        return found, lacks

    def rising(self, lacks):
        self.assertIs(type(lacks), tuple)
        self.assertIs(type(lacks[0]), list)
        self.assertIs(type(lacks[1]), list)
        self.keys_rise(lacks[2])
        for inner in lacks[2].values():
            self.rising(inner)

    def test_just_one(self):
        chance = chance_of(62)
        right = 0
        for _ in range(300):
            beginning = random_beginning(chance, KINDS, chance.randrange(7))
            for stand in chance.sample(all_heaps(KINDS, 3), 5) + [random_stand(chance, KINDS, 7)]:
                found, lacks = self.check(KINDS, beginning, stand)
                right += found is not None
                other = shuffled(chance, beginning), as_tuples(shuffled(chance, stand))
                self.assertEqual(sowing(KINDS, *other), found)
                self.assertEqual(lack(KINDS, *other), lacks)
        self.assertGreater(right, 100)

    def test_just_one_where_it_is_tight(self):
        chance = chance_of(63)
        kinds = SHOPS
        for _ in range(300):
            beginning = [("shop", "open", [("order", "new", [], chance.random() < 0.2)
                                           for _ in range(chance.randrange(3))], chance.random() < 0.15)
                         for _ in range(chance.randrange(4))]
            stand = shops(*[[N] * chance.randrange(3) for _ in range(chance.randrange(5))])
            self.check(kinds, beginning, stand)

    def test_what_lies_in_what_begins_begins(self):
        chance = chance_of(64)
        for _ in range(60):
            beginning = random_beginning(chance, WIDE, 6)
            for stand in chance.sample(all_heaps(WIDE, 3), 10):
                if begins(WIDE, beginning, stand):
                    for path in paths(stand):
                        fewer = [row for row in as_lists(stand)]
                        holder = fewer
                        for index in path[:-1]:
                            holder = holder[index][2]
                        del holder[path[-1]]
                        self.assertIs(begins(WIDE, beginning, fewer), True)

    def test_parts_of_unlike_records_never_bar_each_other(self):
        beginning = [("shop", "open", [("order", "new", [], False)], True)]
        found, _ = self.check(SHOPS, beginning, shops([N], [N], []))
        self.assertEqual(set(found.values()), {(0,), (0, 0)})
        self.check(SHOPS, beginning, shops([N], [N, N]))

    def test_new_each_time(self):
        self.new_each_time(sowing, SHOPS, as_lists(ONE), as_lists(STAND))
        self.new_each_time(lack, SHOPS, as_lists(ONE), as_lists(shops([S], [S])))

    def test_great_ones(self):
        seeds = [("shop", "open", [("order", "new", [], False)] * index, False) for index in range(4)]
        for stand in (shops(*[[N] * 2] * 4), shops([N] * 11), shops(*[[]] * 12), shops([N], [N], [N], [N, N, N])):
            self.soon(self.check, SHOPS, seeds[:3], stand)
        self.soon(self.check, SHOPS, [("shop", "open", [], False)] * 8, shops(*[[]] * 8))


class JudgedSowings(Case):

    def fault(self, thing):
        return sowing_fault(SHOPS, ONE, STAND, thing)

    def test_form(self):
        for thing in odd_things():
            self.assertEqual(sowing_fault(kinds=SHOPS, beginning=ONE, stand=STAND, thing=thing), ("form", 0))
        for path in SOWN:
            fewer = {key: SOWN[key] for key in SOWN if key != path}
            self.assertEqual(self.fault(fewer), ("form", 0))
            for other in (tuple(bool(index) for index in path), tuple(float(index) for index in path), 5, (5,), (),
                    Sour()):
                self.assertEqual(self.fault({**fewer, other: SOWN[path]}), ("form", 0))
        self.assertEqual(self.fault({**SOWN, (1,): (0,)}), ("form", 0))
        self.assertIsNone(sowing_fault(SHOPS, ONE, [], {}))
        self.assertEqual(sowing_fault(SHOPS, ONE, [], []), ("form", 0))

    def test_path(self):
        for thing in odd_things():
            if written(thing) not in ("[0]", "(0,)"):
                self.assertEqual(self.fault({**SOWN, (0,): thing}), ("path", (0,)))
            self.assertEqual(self.fault({**SOWN, (0, 1): thing}), ("path", (0, 1)))
        for change, path in (({(0,): (0, 0)}, (0,)), ({(0, 0): (0,)}, (0, 0)), ({(0, 0): (0, 1)}, (0, 0)),
                             ({(0, 1): (0, 0, 0)}, (0, 1)), ({(0, 1): (False, 0)}, (0, 1)), ({(0, 1): (0, GREAT)}, (0,
                             1)),
                             ({(0, 0): None, (0, 1): None}, (0, 0)), ({(0,): (1,), (0, 0): None}, (0,))):
            self.assertEqual(self.fault({**SOWN, **change}), ("path", path))
        # Another kind or mark; a seed in another seed than the one to which the shop goes.
        beginning = [("shop", "open", [("order", "new", [], True), ("order", "sent", [], True)], True),
                     ("shop", "shut", [("order", "new", [], True)], True)]
        self.assertIsNone(sowing_fault(SHOPS, beginning, STAND, SOWN))
        for change, path in (({(0, 0): (0, 1)}, (0, 0)), ({(0, 1): (1, 0)}, (0, 1)), ({(0,): (1,)}, (0,))):
            self.assertEqual(sowing_fault(SHOPS, beginning, STAND, {**SOWN, **change}), ("path", path))

    def test_twice(self):
        beginning = [("shop", "open", [("order", "new", [], False)] * 2, False), ("shop", "open", [], True)]
        # Told: the shop with many has no seeds, so it comes first.
        one = {(0,): (1,), (0, 0): (1, 0), (0, 1): (1, 1)}
        self.assertIsNone(sowing_fault(SHOPS, beginning, STAND, one))
        self.assertEqual(sowing_fault(SHOPS, beginning, STAND, {**one, (0, 1): (1, 0)}), ("twice", (0, 1)))
        stand = shops([N], [N])
        two = {(0,): (1,), (0, 0): (1, 0), (1,): (1,), (1, 0): (1, 0)}
        self.assertEqual(sowing_fault(SHOPS, beginning, stand, two), ("twice", (1,)))
        # "path" anywhere goes ahead of "twice".
        self.assertEqual(sowing_fault(SHOPS, beginning, stand, {**two, (1, 0): (0, 0)}), ("path", (1, 0)))
        self.assertIsNone(sowing_fault(SHOPS, beginning, shops([], []), {(0,): (0,), (1,): (0,)}))
        # To one seed there may go parts of unlike records.
        wide = [("shop", "open", [("order", "new", [], False)], True)]
        self.assertIsNone(sowing_fault(SHOPS, wide, stand, {(0,): (0,), (0, 0): (0, 0), (1,): (0,), (1, 0): (0, 0)}))

    def test_forms(self):
        other = {path: list(SOWN[path]) for path in reversed(list(SOWN))}
        self.assertIsNone(sowing_fault(SHOPS, as_lists(ONE), as_tuples(STAND), other))
        self.assertEqual(other, {path: list(SOWN[path]) for path in SOWN})

    def test_each_wrong_sowing_is_found(self):
        beginning = told_seeds([("shop", "open", [("order", "new", [], False)], True), ("shop", "open", [], False)])
        stand = told(shops([N], []))
        for way in itertools.product(paths(beginning), repeat=3):
            thing = dict(zip(paths(stand), way))
            fits = all(at(stand, path)[:2] == at(beginning, seed)[:2]
                       and seed[:-1] == (thing[path[:-1]] if len(path) > 1 else ()) for path, seed in thing.items())
            once = all(thing[one] != thing[other] or at(beginning, thing[one])[3]
                       for one in thing for other in thing if one != other and one[:-1] == other[:-1])
            fault = sowing_fault(SHOPS, beginning, stand, thing)
            self.assertEqual(fault is None, fits and once)
            self.assertEqual(fault is not None and fault[0] == "path", not fits)


class JudgedLacks(Case):

    BEGINNING = [("shop", "open", [("order", "new", [], False)], False), ("shop", "open", [], True)]
    # Told: the one with many first.
    STAND = [("shop", "open", [N]), ("shop", "open", [N])]
    INNER = ([0], [], {})
    LACK = ([0, 1], [1], {(0, 0): INNER, (1, 0): INNER})

    def fault(self, thing):
        return lack_fault(SHOPS, self.BEGINNING, self.STAND, thing)

    def test_right(self):
        self.assertEqual(lack(SHOPS, self.BEGINNING, self.STAND), self.LACK)
        for thing in (self.LACK, as_lists(self.LACK), as_tuples(self.LACK),
                      (*self.LACK[:2], {(1, 0): self.INNER, (0, 0): self.INNER})):
            self.assertIsNone(lack_fault(kinds=SHOPS, beginning=self.BEGINNING, stand=self.STAND, thing=thing))

    def test_wrong(self):
        inner = self.LACK[2]
        for thing in odd_things():
            self.assertEqual(self.fault(thing), ("form", ()))
            self.assertEqual(self.fault((thing, [1], inner)), ("form", ()))
            self.assertEqual(self.fault(([0, 1], thing, {})), ("form", ()))
            self.assertEqual(self.fault(([0, 1], [1], thing)), ("form", ()))
            if written(thing) != "([0], [], {})":
                self.assertEqual(self.fault(([0, 1], [1], {**inner, (0, 0): thing}))[1][:1], ((0, 0),))
        for mine, theirs in (([1, 0], [1]), ([0, 0], [1]), ([0, 2], [1]), ([0, True], [1]), ([0.0, 1], [1]), ([0,
                GREAT], [1]),
                             ([0, 1], [0]), ([0, 1], [0, 1]), ([0], [1]), ([], []), ([0, 1], [2]), ([0, 1], [-1]),
                             ([0, 1], [True]), ("01", [1]), ({0: 0, 1: 1}, [1]), ([0, 1], "1")):
            self.assertEqual(self.fault((mine, theirs, inner)), ("form", ()))
        for pairs in ({}, {(0, 0): self.INNER}, {(0, 0): self.INNER, (0, 1): self.INNER},
                      {(0, 0): self.INNER, (2, 0): self.INNER}, {**inner, (0, 1): self.INNER}, {**inner, 5: self.INNER},
                      {(0, 0): self.INNER, (True, 0): self.INNER}, {(0, 0): self.INNER, (1.0, 0): self.INNER},
                      {(0, 0): self.INNER, Sour(): self.INNER}):
            self.assertEqual(self.fault(([0, 1], [1], pairs)), ("form", ()))
        self.assertEqual(self.fault((*self.LACK, 1)), ("form", ()))
        self.assertEqual(self.fault(([0, 1], [], {**inner, (0, 1): None, (1, 1): None})), ("form", ((0, 1),)))

    def test_ways_lead_inward(self):
        wrong = ([], [], {})
        self.assertEqual(self.fault(([0, 1], [1], {(1, 0): wrong, (0, 0): self.INNER})), ("form", ((1, 0),)))
        self.assertEqual(self.fault(([0, 1], [1], {(1, 0): wrong, (0, 0): wrong})), ("form", ((0, 0),)))
        line = ("line", "ok", [])
        beginning = [("shop", "open", [("order", "new", [], True)], True)]
        stand = [("shop", "open", [("order", "new", [line])])]
        found = lack(KINDS, beginning, stand)
        self.assertEqual(found, ([0], [], {(0, 0): ([0], [], {(0, 0): ([0], [], {})})}))
        bad = ([0], [], {(0, 0): ([0], [], {(0, 0): None})})
        self.assertEqual(lack_fault(KINDS, beginning, stand, bad), ("form", ((0, 0), (0, 0))))
        self.assertEqual(lack_fault(KINDS, beginning, stand, ([0], [], {(0, 0): ([0], [], {})})), ("form", ((0, 0),)))

    def test_seeds_with_many_are_never_theirs(self):
        self.assertEqual(lack_fault(SHOPS, MANY, shops([S], [S]), ([0, 1], [0], {})), ("form", ()))
        self.assertEqual(lack_fault(SHOPS, MANY, shops([N], [N]), ([0, 1], [], {})), ("form", ()))

    def test_no_lack_of_what_lies_in(self):
        for mine in ([0], [0, 1], [1]):
            for theirs in ([], [0], [1]):
                for inner in (([0], [], {}), ([], [], {}), None):
                    pairs = {(j, t): inner for j in mine for t in (0, 1) if t not in theirs}
                    thing = (mine, theirs, pairs)
                    self.assertIsNotNone(lack_fault(SHOPS, self.BEGINNING, shops([N], []), thing))
