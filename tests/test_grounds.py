"""[6.3], [7.1] to [7.6]: grounds, deleting, doing, all others."""

from anywithin.errors import (
    Asked, BadKind, BadName, BadNumber, BadNumbers, BadPlace, BadPlan, BadStand, Lasts, NoRecord, NotThere, Twice,
)
from anywithin.grounds import Ground
from anywithin.kinds import Kinds
from anywithin.placings import lies_in, placing
from anywithin.plans import Plan
from tests.helpers import (
    GREAT, SHOPS, Case, Sour, as_lists, as_tuples, at, chance_of, odd_things, paths, random_stand,
    shuffled, size, told,
)

CLOSE = ("close", [("shop", None, {"open": "shut"})], [(0, "order", ["sent"])], [], [], [], [])
SEND = ("send", [("shop", None, {"open": "open"}), ("order", 0, {"new": "sent"})], [], [], [], [], [])
PUT = ("put", [("shop", None, {"open": "open"})], [], [], [], [], [("order", "new", ("who", 0))])
PLAN = Plan(SHOPS, [CLOSE, SEND, PUT])
N, S = ("order", "new", ()), ("order", "sent", ())

FARM = Kinds([
    ("farm", "", ["f", "g"], True),
    ("barn", "farm", ["a", "b"], False),
    ("cow", "barn", ["x", "y"], False),
    ("hen", "barn", ["x", "y"], False),
])
FARMS = [("farm", "f", [("barn", "a", [("cow", "x", []), ("cow", "y", []), ("hen", "x", [])]),
                        ("barn", "b", [("cow", "x", []), ("hen", "y", [])])]),
         ("farm", "g", [("barn", "a", [("cow", "x", [])])])]
# Numbers: farm f 0, barn a 1 (cow x 2, cow y 3, hen x 4), barn b 5 (cow x 6, hen y 7), farm g 8, barn a 9 (cow x 10).


def deed(who=(), asks=(), turns=(), pours=(), moves=(), news=()):
    return ("it", list(who), list(asks), list(turns), list(pours), list(moves), list(news))


def farm(*made):
    return Ground(Plan(FARM, made), FARMS)


def done(numbers, *parts, **lists):
    """The ground behind one deed, and what the deed told."""
    ground = farm(deed(*parts, **lists))
    return ground, ground.do("it", numbers)


def rows(ground):
    return {number: ground.record(number) for number in ground.numbers()}


FIRST = {0: ("farm", "f", None), 1: ("barn", "a", 0), 2: ("cow", "x", 1), 3: ("cow", "y", 1), 4: ("hen", "x", 1),
         5: ("barn", "b", 0), 6: ("cow", "x", 5), 7: ("hen", "y", 5), 8: ("farm", "g", None), 9: ("barn", "a", 8),
         10: ("cow", "x", 9)}
BARN, COW, FARM_WHO = ("barn", 0, {"a": "a", "b": "b"}), ("cow", 1, {"x": "x"}), ("farm", None, {"f": "f", "g": "g"})


class Numbers(Case):

    def test_example(self):
        ground = Ground(PLAN, [("shop", "open", [])])
        self.assertEqual(ground.do("put", [0]), [1])
        self.assertEqual(ground.do("put", [0]), [2])
        self.raised(Asked, 0, ground.do, "close", [0])
        self.assertEqual(ground.do("send", [0, 1]), [])
        self.assertEqual(ground.others("close", [0], 0, "order"), [1, 2])
        self.assertIsNone(ground.delete(2))
        self.assertEqual(ground.do("close", [0]), [])
        self.assertEqual(ground.stand(), (("shop", "shut", (S,)),))
        self.assertEqual(ground.given(), 3)
        self.assertIsNone(ground.record(2))
        self.raised(NotThere, 0, ground.do, "put", [0])
        self.raised(Twice, 0, ground.do, "send", [0, 0])
        self.raised(NoRecord, 2, ground.do, "send", [0, 2])

    def test_numbers_go_by_the_told_form(self):
        chance = chance_of(51)
        plan = Plan(FARM, [])
        for count in range(40):
            stand = random_stand(chance, FARM, count % 31)
            for form in (stand, shuffled(chance, stand), as_tuples(stand), told(stand)):
                ground = Ground(plan=plan, stand=form)
                self.assertEqual(ground.numbers(), list(range(size(stand))))
                self.assertEqual(ground.given(), size(stand))
                ways = paths(told(stand))
                for number, path in enumerate(ways):
                    kind, mark, above = ground.record(number)
                    self.assertEqual((kind, mark), at(told(stand), path)[:2])
                    self.assertEqual(above, ways.index(path[:-1]) if len(path) > 1 else None)
                    self.assertEqual(ground.parts(number), [
                        index for index, way in enumerate(ways) if len(way) == len(path) + 1 and way[:-1] == path])
                self.assertEqual(ground.stand(), told(stand))
        self.assertEqual(rows(farm()), FIRST)

    def test_what_is_told(self):
        ground = farm()
        self.assertTrue(ground.plan() == Plan(FARM, []))
        self.assertEqual(ground.record(number=7), ("hen", "y", 5))
        self.assertIs(type(ground.record(7)), tuple)
        self.assertEqual(ground.parts(number=1), [2, 3, 4])
        self.assertEqual(ground.parts(2), [])
        for call, rest in ((ground.numbers, ()), (ground.parts, (1,)), (ground.record, (1,)), (ground.stand, ()),
                           (ground.given, ())):
            self.new_each_time(call, *rest)
        ground.delete(5)
        self.assertEqual(ground.numbers(), [0, 1, 2, 3, 4, 8, 9, 10])
        self.assertEqual(ground.given(), 11)
        for number in (5, 6, 7):
            self.assertIsNone(ground.record(number))
            self.assertEqual(ground.parts(number), [])
        self.assertEqual(ground.parts(0), [1])

    def test_bad_number(self):
        ground = farm()
        for number in (11, -1, None, True, False, 1.0, "1", [1], GREAT, Sour(), {}):
            self.raised(BadNumber, number, ground.record, number)
            self.raised(BadNumber, number, ground.parts, number)
        empty = Ground(Plan(FARM, []), [])
        self.raised(BadNumber, 0, empty.record, 0)
        self.assertEqual((empty.numbers(), empty.given(), empty.stand()), ([], 0, ()))

    def test_bad_ground(self):
        for thing in odd_things():
            self.raised(BadPlan, thing, Ground, thing, None)
        self.raised(BadStand, 0, Ground, PLAN, None)
        self.raised(BadStand, 1, Ground, PLAN, [("shop", "open", []), ("order", "new", [])])

    def test_equal(self):
        one, other = farm(), farm()
        self.assertTrue(one == other)
        self.assertTrue(one == Ground(Plan(FARM, []), as_lists(FARMS)[::-1]))
        one.delete(2)
        self.assertFalse(one == other)
        other.delete(2)
        self.assertTrue(one == other)
        other.delete(3)
        one.delete(10)
        self.assertFalse(one == other)
        # Alike stands with other numbers are unequal, and so are other plans, and other counts.
        two = [("farm", "f", [("barn", "a", []), ("barn", "a", [])])]
        one, other = Ground(Plan(FARM, []), two), Ground(Plan(FARM, []), two)
        one.delete(1)
        other.delete(2)
        self.assertEqual(one.stand(), other.stand())
        self.assertFalse(one == other)
        self.assertFalse(Ground(Plan(FARM, [deed()]), two) == Ground(Plan(FARM, []), two))
        one, other = Ground(PLAN, [("shop", "open", [])]), Ground(PLAN, [("shop", "open", [])])
        one.do("put", [0])
        one.delete(1)
        self.assertEqual(one.stand(), other.stand())
        self.assertFalse(one == other)
        for thing in (None, 0, one.stand(), PLAN, Sour()):
            self.assertIs(one == thing, False)
            self.assertIs(one != thing, True)

    def test_copy(self):
        ground = Ground(PLAN, [("shop", "open", [N])])
        ground.do("put", [0])
        twin = ground.copy()
        self.assertTrue(twin == ground)
        self.assertEqual(twin.do("put", [0]), [3])
        twin.delete(1)
        self.assertEqual(ground.numbers(), [0, 1, 2])
        self.assertEqual(ground.given(), 3)
        self.assertEqual(ground.do("send", [0, 1]), [])
        self.assertEqual(twin.numbers(), [0, 2, 3])
        self.assertEqual(twin.record(2), ("order", "new", 0))
        self.assertEqual(ground.do("put", [0]), [3])


class Deleting(Case):

    def test_all_within_goes(self):
        ground = farm()
        ground.delete(number=1)
        self.assertEqual(ground.numbers(), [0, 5, 6, 7, 8, 9, 10])
        ground.delete(6)
        self.assertEqual(rows(ground), {number: FIRST[number] for number in (0, 5, 7, 8, 9, 10)})
        shops = Ground(PLAN, [("shop", "open", [N, S]), ("shop", "shut", [])])
        shops.delete(0)
        self.assertEqual(shops.stand(), (("shop", "shut", ()),))

    def test_errors(self):
        ground = farm()
        before = rows(ground)
        for number in (11, -1, None, True, False, 1.0, "1", [1], GREAT, Sour(), {}):
            self.raised(NoRecord, number, ground.delete, number)
        for number in (0, 8):
            self.raised(Lasts, number, ground.delete, number)
        self.assertEqual(rows(ground), before)
        ground.delete(1)
        for number in (1, 2, 3, 4):
            self.raised(NoRecord, number, ground.delete, number)

    def test_no_number_is_used_again(self):
        ground = Ground(PLAN, [("shop", "open", [])])
        seen = []
        for _ in range(5):
            seen.extend(ground.do("put", (0,)))
            ground.delete(seen[-1])
        self.assertEqual(seen, [1, 2, 3, 4, 5])
        self.assertEqual(ground.given(), 6)
        for number in seen:
            self.assertIsNone(ground.record(number))


class Doing(Case):

    def test_who_are_set(self):
        ground, made = done([0, 1, 2], [("farm", None, {"f": "g"}), ("barn", 0, {"a": "b"}), ("cow", 1, {"x": "y"})])
        self.assertEqual(made, [])
        self.assertEqual(rows(ground), {**FIRST, 0: ("farm", "g", None), 1: ("barn", "b", 0), 2: ("cow", "y", 1)})

    def test_who_go_with_all_within(self):
        ground, _ = done([0, 1], [FARM_WHO, ("barn", 0, {"a": None, "b": "a"})])
        self.assertEqual(ground.numbers(), [0, 5, 6, 7, 8, 9, 10])
        ground, _ = done([0, 5], [FARM_WHO, ("barn", 0, {"a": None, "b": "a"})])
        self.assertEqual(rows(ground), {**FIRST, 5: ("barn", "a", 0)})
        # A deed may let records go that last.
        ground, _ = done([0], [("farm", None, {"f": None})])
        self.assertEqual(ground.numbers(), [8, 9, 10])

    def test_others_are_turned(self):
        turn = {"x": "y", "y": "x"}
        ground, _ = done([0, 1, 2], [FARM_WHO, BARN, COW], turns=[(1, "cow", turn)])
        self.assertEqual(rows(ground), {**FIRST, 3: ("cow", "x", 1)})
        ground, _ = done([0, 1, 2], [FARM_WHO, BARN, COW], turns=[(0, "cow", turn)])
        self.assertEqual(rows(ground), {**FIRST, 3: ("cow", "x", 1), 6: ("cow", "y", 5)})
        ground, _ = done([0, 1, 2], [FARM_WHO, BARN, COW], turns=[(None, "cow", turn)])
        self.assertEqual(rows(ground), {**FIRST, 3: ("cow", "x", 1), 6: ("cow", "y", 5), 10: ("cow", "y", 9)})
        ground, _ = done([], turns=[(None, "farm", {"f": None})])
        self.assertEqual(ground.numbers(), [8, 9, 10])
        ground, _ = done([0], [FARM_WHO], turns=[(None, "farm", {"f": None, "g": "f"})])
        self.assertEqual(rows(ground), {**FIRST, 8: ("farm", "f", None)})

    def test_only_the_first_fitting_turn(self):
        turns = [(0, "cow", {"y": "x"}), (1, "cow", {"x": "y"}), (None, "cow", {"x": None, "y": None})]
        ground, _ = done([0, 1], [FARM_WHO, BARN], turns=turns)
        self.assertEqual(rows(ground), {**{number: row for number, row in FIRST.items() if number not in (6, 10)},
                                        2: ("cow", "y", 1), 3: ("cow", "x", 1)})
        # A turn that leaves a mark as it is counts, too.
        ground, _ = done([0], [FARM_WHO], turns=[(0, "hen", {"x": "x"}), (None, "hen", {"x": None, "y": "x"})])
        self.assertEqual(rows(ground), {**FIRST, 7: ("hen", "x", 5)})

    def test_asks(self):
        # The who: farm 0, its barn 1, the cow 3 with mark y in it.
        for asks, index in (
            ([(None, "cow", ["x", "y"])], None), ([(None, "cow", ["x"])], None), ([(None, "cow", ["y"])], 0),
            ([(0, "cow", ["y"])], 0), ([(1, "cow", ["x"])], None), ([(1, "cow", [])], 0), ([(0, "hen", ["x"])], 0),
            ([(0, "hen", ["y", "x"])], None), ([(1, "hen", ["x"])], None), ([(1, "hen", [])], 0),
            ([(None, "barn", ["b"])], 0), ([(0, "barn", ["b"])], None),
            ([(None, "cow", ["x"]), (0, "hen", ["y"]), (1, "hen", [])], 1),
            ([(1, "cow", ["x"]), (0, "barn", ["b"]), (None, "hen", ["x"])], 2),
        ):
            ground = farm(deed([FARM_WHO, BARN, ("cow", 1, {"y": "y"})], asks))
            if index is None:
                self.assertEqual(ground.do("it", [0, 1, 3]), [])
            else:
                self.raised(Asked, index, ground.do, "it", [0, 1, 3])
            self.assertEqual(rows(ground), FIRST)

    def test_asks_by_the_stand_ahead(self):
        # Turns and pours of the same deed help no ask, and hinder none.
        lists = {"who": [FARM_WHO, ("barn", 0, {"a": "a"})], "asks": [(1, "cow", ["x"])], "turns": [(1, "cow",
            {"y": "x"})]}
        self.raised(Asked, 0, farm(deed(**lists)).do, "it", [0, 1])
        lists["asks"], lists["turns"] = [(1, "cow", ["x", "y"])], [(1, "cow", {"x": None})]
        self.assertEqual(rows(done([0, 1], **lists)[0]), {number: row for number, row in FIRST.items() if number != 2})
        lists = {"who": [FARM_WHO, BARN, BARN], "asks": [(1, "hen", [])], "pours": [(1, "hen", ("who", 2))]}
        self.raised(Asked, 0, farm(deed(**lists)).do, "it", [0, 1, 5])

    def test_pours(self):
        ground, _ = done([0, 1, 5], [FARM_WHO, BARN, BARN], pours=[(1, "cow", ("who", 2))])
        self.assertEqual(rows(ground), {**FIRST, 2: ("cow", "x", 5), 3: ("cow", "y", 5)})
        ground, _ = done([0, 1, 5], [FARM_WHO, BARN, BARN], pours=[(1, "cow", ("who", 2)), (2, "cow", ("who", 1)),
                                                                   (1, "hen", ("who", 2))])
        self.assertEqual(rows(ground), {**FIRST, 2: ("cow", "x", 5), 3: ("cow", "y", 5), 6: ("cow", "x", 1),
                                        4: ("hen", "x", 5)})
        # Who are not poured; what lies in what is poured goes along; the new one's number is the next.
        ground, made = done([0, 1, 2], [FARM_WHO, BARN, COW], pours=[(1, "cow", ("new", 0)), (0, "barn", ("new", 1))],
                            news=[("barn", "b", ("who", 0)), ("farm", "g", None)])
        self.assertEqual(made, [11, 12])
        self.assertEqual(rows(ground), {**FIRST, 3: ("cow", "y", 11), 5: ("barn", "b", 12), 11: ("barn", "b", 0),
                                        12: ("farm", "g", None)})

    def test_poured_ones_are_turned_by_where_they_lay(self):
        lists = {"who": [FARM_WHO, BARN, BARN], "pours": [(1, "cow", ("who", 2))]}
        ground, _ = done([0, 1, 5], turns=[(1, "cow", {"x": "y", "y": None}), (2, "cow", {"x": None})], **lists)
        self.assertEqual(rows(ground), {**{number: row for number, row in FIRST.items() if number not in (3, 6)},
                                        2: ("cow", "y", 5)})

    def test_moves(self):
        ground, _ = done([0, 1, 2, 5], [FARM_WHO, BARN, COW, BARN], moves=[(2, ("who", 3))])
        self.assertEqual(rows(ground), {**FIRST, 2: ("cow", "x", 5)})
        ground, _ = done([0, 1, 8], [FARM_WHO, BARN, FARM_WHO], moves=[(1, ("who", 2))])
        self.assertEqual(rows(ground), {**FIRST, 1: ("barn", "a", 8)})
        ground, made = done([0, 1, 2], [FARM_WHO, BARN, COW], moves=[(2, ("new", 1)), (1, ("new", 0))],
                            news=[("farm", "g", None), ("barn", "b", ("new", 0))])
        self.assertEqual(made, [11, 12])
        self.assertEqual(rows(ground), {**FIRST, 1: ("barn", "a", 11), 2: ("cow", "x", 12), 11: ("farm", "g", None),
                                        12: ("barn", "b", 11)})
        ground, _ = done([0, 1], [FARM_WHO, BARN], moves=[(1, ("who", 0))])
        self.assertEqual(rows(ground), FIRST)

    def test_what_goes_takes_what_came(self):
        gone = ("barn", 0, {"a": None, "b": None})
        # Moved or poured out of it is saved, all else within goes.
        ground, _ = done([0, 1, 5, 2], [FARM_WHO, gone, BARN, ("cow", 1, {"x": "y"})], pours=[(1, "hen", ("who", 2))],
                         moves=[(3, ("who", 2))])
        self.assertEqual(rows(ground), {**{number: row for number, row in FIRST.items() if number not in (1, 3)},
                                        2: ("cow", "y", 5), 4: ("hen", "x", 5)})
        # What came into it goes, new ones at once, though their numbers are told.
        ground, made = done([0, 1, 5, 6], [FARM_WHO, gone, BARN, ("cow", 2, {"x": "y"})], pours=[(2, "hen", ("who",
            1))],
                            moves=[(3, ("who", 1))], news=[("cow", "x", ("who", 1)), ("cow", "x", ("who", 2))])
        self.assertEqual(made, [11, 12])
        self.assertEqual(ground.given(), 13)
        self.assertEqual(rows(ground), {**{number: FIRST[number] for number in (0, 5, 8, 9, 10)}, 12: ("cow", "x", 5)})
        self.assertIsNone(ground.record(11))
        # What goes itself goes wherever it was poured or moved.
        ground, _ = done([0, 1, 5, 2], [FARM_WHO, BARN, BARN, ("cow", 1, {"x": None})], moves=[(3, ("who", 2))],
                         pours=[(1, "hen", ("who", 2))], turns=[(1, "hen", {"x": None})])
        self.assertEqual(ground.numbers(), [0, 1, 3, 5, 6, 7, 8, 9, 10])
        # A barn poured out of a farm that goes takes its cows along, though the cows' farm goes.
        ground, _ = done([0, 8, 1], [("farm", None, {"f": None}), FARM_WHO, ("barn", 0, {"a": None, "b": "b"})],
                         pours=[(0, "barn", ("who", 1))])
        self.assertEqual(rows(ground), {**{number: FIRST[number] for number in (6, 7, 8, 9, 10)}, 5: ("barn", "b", 8)})

    def test_news(self):
        ground, made = done([0], [("farm", None, {"f": "f"})], news=[
            ("barn", "a", ("who", 0)), ("farm", "g", None), ("barn", "b", ("new", 1)), ("cow", "y", ("new", 0))])
        self.assertEqual(made, [11, 12, 13, 14])
        self.assertEqual(rows(ground), {**FIRST, 11: ("barn", "a", 0), 12: ("farm", "g", None), 13: ("barn", "b", 12),
                                        14: ("cow", "y", 11)})
        self.assertEqual(ground.do("it", [0]), [15, 16, 17, 18])
        # New ones fall under no turn.
        ground, made = done([], turns=[(None, "farm", {"g": "f"})], news=[("farm", "g", None)])
        self.assertEqual([ground.record(number)[1] for number in (0, 8, 11)], ["f", "f", "g"])

    def test_what_do_tells_is_new(self):
        ground = Ground(PLAN, [("shop", "open", [])])
        numbers = [0]
        told_ones = ground.do("put", numbers)
        told_ones.append(7)
        numbers.append(8)
        self.assertEqual(ground.numbers(), [0, 1])
        self.assertEqual(ground.do(name="put", numbers=(0,)), [2])

    def test_errors_in_order(self):
        ground = farm(deed([FARM_WHO, BARN, COW], asks=[(1, "cow", ["x"]), (0, "hen", [])]))
        self.check_errors(ground, lambda numbers: ground.do("it", numbers), True)
        for name in ("nix", "", None, 5, ["it"], Sour(), True):
            self.raised(BadName, name, ground.do, name, None)
        self.assertEqual(rows(ground), FIRST)
        self.assertEqual(ground.given(), 11)

    def check_errors(self, ground, call, asks):
        for numbers in (None, "012", [0, 1], [0, 1, 2, 3], [], {0: 1}, [0, 1, True], [0, 1, 2.0], [0, -1, 99],
                [None] * 3,
                        [0, 1, "2"], [0, 1, [2]], [Sour()] * 3, Sour(), [99, 99, -1]):
            self.raised(BadNumbers, numbers, call, numbers)
        for numbers, number in (([0, 11, 12], 11), ([99, 0, 0], 99), ([0, 0, 50], 50), ([0, 1, GREAT], GREAT)):
            self.raised(NoRecord, number, call, numbers)
        for numbers, number in (([0, 1, 1], 1), ([0, 0, 0], 0), ([7, 2, 7], 7)):
            self.raised(Twice, number, call, numbers)
        for numbers, index in (([1, 0, 2], 0), ([0, 9, 10], 1), ([8, 1, 2], 1), ([0, 1, 6], 2), ([0, 1, 4], 2), ([0, 1,
                3], 2),
                               ([5, 6, 7], 0), ([0, 2, 1], 1), ((0, 5, 2), 2)):
            self.raised(NotThere, index, call, numbers)
        if asks:
            self.raised(Asked, 0, call, [0, 1, 2])
            self.raised(Asked, 1, call, (0, 5, 6))

    def test_numbers_of_gone_records(self):
        ground = farm(deed([FARM_WHO, BARN]))
        ground.delete(1)
        self.raised(NoRecord, 1, ground.do, "it", [0, 1])
        self.raised(NoRecord, 1, ground.do, "it", [1, 1])

    def test_mark_is_none_of_the_turn(self):
        ground = farm(deed([("farm", None, {"g": "g"}), ("barn", 0, {"b": "b"})]))
        self.raised(NotThere, 0, ground.do, "it", [0, 1])
        self.raised(NotThere, 1, ground.do, "it", [8, 9])

    def test_lies_in_the_named_one(self):
        ground = farm(deed([FARM_WHO, FARM_WHO, ("barn", 1, {"a": "b"})]))
        self.raised(NotThere, 2, ground.do, "it", [0, 8, 1])
        self.assertEqual(ground.do("it", [8, 0, 1]), [])
        self.assertEqual(ground.record(1), ("barn", "b", 0))


class Others(Case):

    def test_others(self):
        ground = farm(deed([FARM_WHO, BARN, COW]))
        numbers = [0, 1, 2]
        for place, kind, wanted in ((None, "cow", [3, 6, 10]), (0, "cow", [3, 6]), (1, "cow", [3]), (2, "cow", []),
                                    (None, "farm", [8]), (0, "barn", [5]), (None, "barn", [5, 9]), (1, "hen", [4]),
                                    (0, "hen", [4, 7]), (0, "farm", []), (1, "barn", [])):
            self.assertEqual(ground.others("it", numbers, place, kind), wanted)
            self.assertEqual(ground.others(name="it", numbers=(0, 1, 2), place=place, kind=kind), wanted)
        self.new_each_time(ground.others, "it", numbers, None, "cow")
        self.assertEqual(rows(ground), FIRST)

    def test_asks_are_not_looked_at(self):
        ground = farm(deed([FARM_WHO, BARN, COW], asks=[(None, "hen", [])]))
        self.assertEqual(ground.others("it", [0, 1, 2], None, "hen"), [4, 7])

    def test_errors_in_order(self):
        ground = farm(deed([FARM_WHO, BARN, COW]))
        Doing.check_errors(self, ground, lambda numbers: ground.others("it", numbers, -1, None), False)
        for name in ("nix", None, Sour()):
            self.raised(BadName, name, ground.others, name, None, None, None)
        for place in (3, -1, True, False, 0.0, "0", [0], Sour(), GREAT):
            self.raised(BadPlace, place, ground.others, "it", [0, 1, 2], place, None)
        for kind in ("nix", "", None, 5, ["cow"], Sour(), True):
            self.raised(BadKind, kind, ground.others, "it", [0, 1, 2], 0, kind)


class Holds(Case):
    """[7.5], over deeds and stands of many shapes."""

    def random_deed(self, chance, asks):
        """A deed that often can be done, whatever it is."""
        who = [("farm", None, {"f": chance.choice(["f", "g"]), "g": chance.choice(["g", None])}),
               ("barn", 0, {"a": chance.choice(["a", "b", None]), "b": "b"}), ("barn", 0, {"a": "b", "b": "a"}),
               ("cow", 1, {"x": "y", "y": "y"})][:chance.randrange(5)]
        news = [("farm", "f", None), ("barn", "a", ("new", 0)), ("cow", "x", ("new", 1))][:chance.randrange(4)]
        places = [None, *[index for index in range(len(who)) if who[index][0] in ("farm", "barn")]]
        turns = [(chance.choice(places), "cow", {"x": chance.choice(["y", None]), "y": "x"}),
                 (None, "hen", {"y": chance.choice(["x", None])})][:chance.randrange(3)]
        pours = [(1, "cow", ("who", 2)), (2, "hen", ("who", 1))][:chance.randrange(3)] if len(who) > 2 else []
        moves = [(3, ("who", 2))] if len(who) > 3 and chance.random() < 0.5 else []
        if len(who) > 1 and len(news) > 0 and chance.random() < 0.5:
            moves.append((1, ("new", 0)))
        rules = [(chance.choice(places), "hen", ["x"]), (None, "barn", ["a"])][:chance.randrange(3)] if asks else []
        return deed(who, rules, turns, pours, moves, news)

    def fitting(self, ground, plan):
        """All lists of numbers with which the deed can be done."""
        who = plan.deed("it")[1]
        lists = [[]]
        for kind, lies, turn in who:
            lists = [[*numbers, number] for numbers in lists for number in ground.numbers()
                     if number not in numbers and ground.record(number)[0] == kind and ground.record(number)[1] in turn
                     and ground.record(number)[2] == (None if lies is None else numbers[lies])]
        return lists

    def tried(self, asks, count, seed):
        chance = chance_of(seed)
        for _ in range(count):
            plan = Plan(FARM, [self.random_deed(chance, asks)])
            ground = Ground(plan, random_stand(chance, FARM, chance.randrange(4, 12)))
            lists = self.fitting(ground, plan)
            if lists:
                yield chance, plan, ground, chance.choice(lists)

    def test_against_a_plain_doing(self):
        for _, plan, ground, numbers in self.tried(True, 400, 52):
            before = rows(ground)
            wanted = plainly_done(before, ground.given(), plan.deed("it"), numbers)
            try:
                made = ground.do("it", numbers)
            except Asked as caught:
                self.assertEqual(wanted, caught.index)
                self.assertEqual(rows(ground), before)
                continue
            self.assertEqual(rows(ground), wanted)
            self.assertEqual(made, list(range(len(before), len(before) + len(plan.deed("it")[6]))))
            self.assertEqual(ground.given(), len(before) + len(made))
            self.assertEqual(ground.stand(), heap_of(wanted, None))
            self.assertEqual(ground.numbers(), sorted(wanted))

    def test_what_is_nobody_stays(self):
        for _, plan, ground, numbers in self.tried(False, 200, 53):
            before = rows(ground)
            turned = {number for place, kind, _ in plan.deed("it")[3]
                      for number in ground.others("it", numbers, place, kind)}
            poured = {number for index, kind, _ in plan.deed("it")[4] for number in ground.parts(numbers[index])
                      if before[number][0] == kind}
            # Without asks a deed is let whenever its who stand as it says.
            ground.do("it", numbers)
            for number in ground.numbers():
                if number in before and number not in turned | poured | set(numbers):
                    self.assertEqual(ground.record(number), before[number])

    def test_alike_stands_go_alike(self):
        for chance, plan, ground, numbers in self.tried(True, 200, 54):
            # The other ground got its numbers in another order, by deeds and deletions ahead.
            other = self.made_otherwise(chance, plan, ground)
            self.assertEqual(other.stand(), ground.stand())
            led = leading(other, ground)
            self.both_done(ground, other, numbers, [led[number] for number in numbers])

    def made_otherwise(self, chance, plan, ground):
        tops = as_lists(ground.stand())
        for top in tops:
            for barn in top[2]:
                barn[2].extend([["cow", chance.choice("xy"), []] for _ in range(chance.randrange(3))])
            top[2].extend([["barn", "a", [["hen", "x", []]]] for _ in range(chance.randrange(2))])
        more = Ground(plan, tops)
        order = paths(more.stand())
        kept = {order.index(place) for place in placing(FARM, ground.stand(), more.stand()).values()}
        for number in more.numbers():
            if number not in kept and more.record(number) is not None:
                more.delete(number)
        return more

    def both_done(self, ground, other, numbers, others):
        try:
            made = ground.do("it", numbers)
        except Asked as caught:
            self.raised(Asked, caught.index, other.do, "it", others)
            return
        self.assertEqual(len(other.do("it", others)), len(made))
        self.assertEqual(other.stand(), ground.stand())

    def test_what_lies_in_another_goes_along(self):
        chance = chance_of(55)
        for _, plan, ground, numbers in self.tried(False, 200, 56):
            more = Ground(plan, [*as_lists(ground.stand()), *random_stand(chance, FARM, 6)])
            places = placing(FARM, ground.stand(), more.stand())
            ways, order = paths(ground.stand()), paths(more.stand())
            led = [order.index(places[ways[number]]) for number in numbers]
            ground.do("it", numbers)
            more.do("it", led)
            self.assertTrue(lies_in(FARM, ground.stand(), more.stand()))

    def test_great_grounds(self):
        chance = chance_of(57)
        plan = Plan(SHOPS, [CLOSE, SEND, PUT, ("new", [], [], [], [], [], [("shop", "open", None)]),
                            ("all", [("shop", None, {"open": "open"})], [(None, "shop", ["open", "shut"])],
                             [(None, "order", {"new": "sent", "sent": "new"})], [], [], [])])
        ground = Ground(plan, random_stand(chance, SHOPS, 30))
        self.soon(self.many_steps, chance, ground)

    def many_steps(self, chance, ground):
        seen = set(ground.numbers())
        for _ in range(70):
            given = ground.given()
            shops = [number for number in ground.numbers() if ground.record(number)[0] == "shop"]
            if len(ground.numbers()) > 29:
                ground.delete(chance.choice(ground.numbers()))
                made = []
            elif not shops:
                made = ground.do("new", [])
            else:
                try:
                    name = chance.choice(["put", "all", "close"])
                    made = ground.do(name, [chance.choice(shops)])
                except (Asked, NotThere):
                    made = ground.do("new", [])
            self.assertFalse(seen & set(made))
            seen |= set(made)
            self.assertEqual(ground.given(), given + len(made))
            self.assertEqual(size(ground.stand()), len(ground.numbers()))


def leading(other, ground):
    """Numbers of other for those of ground, of alike stands: by the order of both told forms."""
    found = {}

    def lead(mine, theirs):
        # Alike records are led to one another, one behind another.
        def key(whose):
            return lambda number: heap_of_one(whose, number)

        for one, two in zip(sorted(mine, key=key(ground)), sorted(theirs, key=key(other))):
            found[one] = two
            lead(ground.parts(one), other.parts(two))

    lead([number for number in ground.numbers() if ground.record(number)[2] is None],
         [number for number in other.numbers() if other.record(number)[2] is None])
    return found


def heap_of_one(ground, number):
    kind, mark, _ = ground.record(number)
    return (kind, mark, tuple(sorted(heap_of_one(ground, part) for part in ground.parts(number))))


def heap_of(table, holder):
    """The told form of such rows, made plainly."""
    return tuple(sorted((kind, mark, heap_of(table, number)) for number, (kind, mark, above) in table.items()
                        if above == holder))


def plainly_done(table, given, one, numbers):
    """The rows behind a deed, by the words of [6.3]; or the index of the first ask that does not hold."""

    def falls(number, place, kind):
        if number in numbers or table[number][0] != kind:
            return False
        up = number
        while place is not None and up is not None:
            up = table[up][2]
            if up == numbers[place]:
                return True
        return place is None

    def spot_number(spot):
        return None if spot is None else numbers[spot[1]] if spot[0] == "who" else given + spot[1]

    _, who, asks, turns, pours, moves, news = one
    for index, (place, kind, marks) in enumerate(asks):
        if any(falls(number, place, kind) and table[number][1] not in marks for number in table):
            return index
    then = {}
    for number, (kind, mark, above) in table.items():
        if number in numbers:
            goal = who[numbers.index(number)][2][mark]
            for index, spot in moves:
                if numbers[index] == number:
                    above = spot_number(spot)
        else:
            fitting = [turn for place, sort, turn in turns if falls(number, place, sort) and mark in turn]
            goal = fitting[0][mark] if fitting else mark
            for index, sort, spot in pours:
                if sort == kind and table[number][2] == numbers[index]:
                    above = spot_number(spot)
        then[number] = (kind, goal, above)
    for index, (kind, mark, spot) in enumerate(news):
        then[given + index] = (kind, mark, spot_number(spot))
    while True:
        gone = [number for number, (_, mark, above) in then.items()
                if mark is None or above is not None and above not in then]
        if not gone:
            return then
        for number in gone:
            del then[number]
