"""[12.1] to [12.6]: walls."""

from anywithin.before import least_before
from anywithin.beginnings import begins
from anywithin.errors import BadAsked, BadBeginning, BadOther, BadPlan
from anywithin.least import is_above, least_ones
from anywithin.placings import lies_in
from anywithin.plans import Plan, with_ask, without_deeds
from anywithin.refusals import BadWall, BadWalls
from anywithin.rounds import least_leading
from anywithin.stands import are_alike, is_stand
from anywithin.walls import is_barrier, needless, wall_fault, wall_thinned, walls_hold, walls_laid
from tests.helpers import (
    SHOPS as OTHER_KINDS, Case, Sour, as_lists, as_tuples, chance_of, no_beginnings, no_plans, no_stands, odd_things,
    random_beginning, random_stand, shuffled, told,
)
from tests.test_before import N, P, PAY, S, SHOPS, SHUT, shop, shuffled_stands
from tests.trials import SOME_KINDS, leading_within, random_plan, seeds_for

OPEN = ("open", [], [], [], [], [], [("shop", "open", None)])
ORDER = ("order", [("shop", None, {"open": "open"})], [], [], [], [], [("order", "new", ("who", 0))])
SEND = ("send", [("shop", None, {"open": "open"}), ("order", 0, {"paid": "sent"})], [], [], [], [], [])


def shut(*marks):
    return (*SHUT[:2], [(0, "order", list(marks))], *SHUT[3:])


PLAN = Plan(SHOPS, [PAY, SHUT, OPEN, ORDER, SEND])
LAXER = Plan(SHOPS, [PAY, shut("sent", "new"), OPEN, ORDER, SEND])
ASKED = [("shop", "shut", [("order", "paid", [])])]
WALL = [[("shop", "shut", [("order", "new", [])])], [("shop", "shut", [("order", "paid", [])])]]
TOLD = [(shop("shut", N),), (shop("shut", P),)]


def plain_fault(plan, beginning, asked, thing):
    """What is first wrong, by the words of [12.1]."""
    kinds = plan.kinds()
    if not isinstance(thing, (list, tuple)):
        return ("form", 0)
    for index, stand in enumerate(thing):
        if not is_stand(kinds, stand) or any(are_alike(kinds, stand, ahead) for ahead in thing[:index]):
            return ("form", index)
    if not any(lies_in(kinds, stand, asked) for stand in thing):
        return ("asked", 0)
    for index, stand in enumerate(thing):
        if begins(kinds, beginning, stand):
            return ("begins", index)
    for index, stand in enumerate(thing):
        for one in plan.all_deeds():
            for before in least_before(plan, one[0], stand):
                if not is_above(kinds, thing, before):
                    return ("before", index, one[0], before)
    return None


class Judged(Case):

    def test_example(self):
        self.assertIsNone(wall_fault(PLAN, [], ASKED, WALL))
        self.assertEqual(wall_fault(PLAN, [], ASKED, WALL[1:]), ("before", 0, "pay", (shop("shut", N),)))
        self.assertEqual(wall_fault(LAXER, [], ASKED, WALL), ("before", 0, "shut", (shop("open", N),)))

    def test_right(self):
        chance = chance_of(121)
        for thing in (WALL, as_lists(WALL), as_tuples(WALL), WALL[::-1], shuffled_stands(chance, WALL)):
            self.assertIsNone(wall_fault(plan=PLAN, beginning=[], asked=ASKED, thing=thing))
            self.assertIs(is_barrier(plan=PLAN, beginning=(), asked=as_tuples(ASKED), thing=thing), True)
        # More than is needed, and what lies above others, may stand there.
        self.assertIsNone(wall_fault(PLAN, [], [*ASKED, shop("open")], [[shop("shut", N, P)], *WALL]))
        self.assertIsNone(wall_fault(PLAN, [], [*ASKED, shop("open")], [[shop("shut", P, P)], *WALL]))

    def test_form(self):
        for thing, index in ((None, 0), ("", 0), ({}, 0), (5, 0), (Sour(), 0), ([None], 0), ([*WALL, 5], 2),
                             ([*WALL, WALL[0]], 2), ([WALL[1], WALL[1], 5], 1), ([*WALL, [shop("nix")]], 2),
                             ([[shop("shut", N, P)], [shop("shut", P, N)]], 1), (WALL[0], 0), ([[Sour()]], 0)):
            self.assertEqual(wall_fault(PLAN, [], ASKED, thing), ("form", index))
            self.assertIs(is_barrier(PLAN, [], ASKED, thing), False)
        for thing in odd_things():
            found = wall_fault(PLAN, [], ASKED, thing)
            self.assertEqual(found, plain_fault(PLAN, [], ASKED, thing))
            self.assertIs(is_barrier(PLAN, [], ASKED, thing), False)

    def test_asked_and_begins(self):
        self.assertEqual(wall_fault(PLAN, [], ASKED, []), ("asked", 0))
        self.assertEqual(wall_fault(PLAN, [], ASKED, WALL[:1]), ("asked", 0))
        self.assertEqual(wall_fault(PLAN, [], ASKED, [[shop("shut", P, P)]]), ("asked", 0))
        self.assertEqual(wall_fault(PLAN, [], [], [[]]), ("begins", 0))
        self.assertEqual(wall_fault(PLAN, [], [], []), ("asked", 0))
        begun = [("shop", "shut", [("order", "new", [], False)], True)]
        self.assertEqual(wall_fault(PLAN, begun, ASKED, WALL), ("begins", 0))
        self.assertEqual(wall_fault(PLAN, begun, ASKED, WALL[::-1]), ("begins", 1))
        self.assertEqual(wall_fault(PLAN, begun, [], [*WALL, []]), ("begins", 0))
        self.assertEqual(wall_fault(PLAN, begun, ASKED, [[shop("shut", S)], WALL[1]]),
                         ("before", 0, "shut", (shop("open", S),)))

    def test_wrong(self):
        good = {"plan": PLAN, "beginning": [], "asked": ASKED, "thing": WALL}
        wrong = [*no_plans(BadPlan), *no_beginnings(BadBeginning), *no_stands(BadAsked, "asked", ASKED)]
        for call in (wall_fault, is_barrier):
            self.refuses(call, good, wrong)
        self.new_each_time(wall_fault, PLAN, [], ASKED, WALL[1:])

    def test_at_random(self):
        """Of things that are nearly walls the first fault is told."""
        chance = chance_of(122)
        faults = {}
        for _ in range(250):
            kinds = chance.choice(SOME_KINDS)
            plan = random_plan(chance, kinds, 3, asks=2)
            asked = told(random_stand(chance, kinds, 3))
            lists = leading_within(plan, asked)
            if lists is None:
                continue
            beginning = random_beginning(chance, kinds, 2)
            wall = shuffled_stands(chance, lists[-1])
            if wall and chance.random() < 0.5:
                del wall[chance.randrange(len(wall))]
            if chance.random() < 0.3:
                wall.insert(chance.randrange(len(wall) + 1), random_stand(chance, kinds, 3))
            found = wall_fault(plan, beginning, asked, wall)
            self.assertEqual(found, plain_fault(plan, beginning, asked, wall))
            faults[found and found[0]] = faults.get(found and found[0], 0) + 1
        self.assertEqual(set(faults), {None, "form", "asked", "begins", "before"})
        self.assertGreater(min(faults.values()), 3)

    def test_long_ones_are_refused_soon(self):
        many = [[shop("open", *[N] * count, *[S] * other)] for count in range(25) for other in range(25)]
        self.assertEqual(self.soon(wall_fault, PLAN, [], ASKED, many), ("asked", 0))
        self.assertEqual(self.soon(wall_fault, PLAN, [], ASKED, [*many, many[0]]), ("form", 625))


class Laid(Case):

    def test_laid(self):
        self.assertEqual(walls_laid(PLAN, [WALL, [], [[shop("shut", P, N)]], [[shop("open")], *WALL]]),
                         [(shop("open"),), *TOLD])
        self.assertEqual(walls_laid(PLAN, []), [])
        self.assertEqual(walls_laid(PLAN, [[[]], WALL]), [()])
        self.same_in_all_forms(walls_laid, PLAN, [WALL, WALL[:1]])
        self.new_each_time(walls_laid, PLAN, [WALL, WALL[:1]])

    def test_wrong(self):
        wrong = [("walls", thing, BadWalls, index) for thing, index in (
            (None, 0), ("", 0), ({}, 0), (5, 0), (Sour(), 0), ([None], 0), ([WALL, 5], 1), ([WALL, WALL, WALL[0]], 2),
            ([WALL, [[shop("nix")]], 5], 1), ([[Sour()]], 0), (WALL, 0), ([[], ""], 1))]
        self.refuses(walls_laid, {"plan": PLAN, "walls": [WALL]}, [*no_plans(BadPlan), *wrong])

    def test_one_for_each(self):
        chance = chance_of(123)
        laid = 0
        for _ in range(60):
            kinds = chance.choice(SOME_KINDS)
            plan = random_plan(chance, kinds, 3)
            beginning = random_beginning(chance, kinds, 2)
            patterns = [told(random_stand(chance, kinds, 3)) for _ in range(2)]
            lists = [leading_within(plan, pattern) for pattern in patterns]
            if None in lists or not all(is_barrier(plan, beginning, pattern, rounds[-1])
                                        for pattern, rounds in zip(patterns, lists)):
                continue
            wall = walls_laid(plan, [rounds[-1] for rounds in lists])
            self.assertTrue(all(is_barrier(plan, beginning, pattern, wall) for pattern in patterns))
            self.assertEqual(wall, least_ones(kinds, wall))
            laid += 1
        self.assertGreater(laid, 5)


class Needless(Case):

    MORE = [[shop("shut", P, P)], WALL[1], [shop("shut", S, N)], WALL[0], [shop("shut", N, N)]]

    def test_needless(self):
        self.assertEqual(needless(PLAN, [], ASKED, WALL), [])
        self.assertEqual(needless(PLAN, [], ASKED, self.MORE), [0, 2, 4])
        self.assertEqual(wall_thinned(PLAN, [], ASKED, self.MORE), TOLD)
        self.assertEqual(wall_thinned(PLAN, [], ASKED, WALL[::-1]), TOLD)
        for call in (needless, wall_thinned):
            self.same_in_all_forms(call, PLAN, [], ASKED, self.MORE)
            self.new_each_time(call, PLAN, [], ASKED, self.MORE)

    def test_needless_though_least(self):
        """What is not beneath asked, nor before anything that is, is needless in a wall of least ones."""
        plan = Plan(SHOPS, [PAY])
        wall = [[shop("shut", P)], [shop("shut", N)], [shop("open", S)]]
        self.assertEqual(needless(plan, [], ASKED, wall), [2])
        self.assertEqual(wall_thinned(plan, [], ASKED, wall), TOLD)

    def test_not_both(self):
        """Two that are needless need not be so together: each of two stands lies in asked."""
        plan = Plan(SHOPS, [])
        wall = [[shop("shut")], [shop("open")]]
        asked = [shop("open"), shop("shut")]
        self.assertEqual(needless(plan, [], asked, wall), [0, 1])
        self.assertEqual(wall_thinned(plan, [], asked, wall), [(shop("open"),)])

    def test_wrong(self):
        good = {"plan": PLAN, "beginning": [], "asked": ASKED, "wall": WALL}
        wrong = [*no_plans(BadPlan), *no_beginnings(BadBeginning), *no_stands(BadAsked, "asked", ASKED)]
        walls = [("wall", thing, BadWall, thing) for thing in (
            None, 5, [], WALL[:1], WALL[1:], [*WALL, WALL[0]], [*WALL, 5], Sour(), "wall", [[]])]
        for call in (needless, wall_thinned):
            self.refuses(call, good, [*wrong, *walls])
        others = [("other", thing, BadOther, thing) for thing in (None, 5, Plan(OTHER_KINDS, []), SHOPS, Sour())]
        self.refuses(walls_hold, {**good, "other": PLAN}, [*wrong, *walls, *others])

    def test_at_random(self):
        chance = chance_of(124)
        tried = again = 0
        for _ in range(200):
            kinds = chance.choice(SOME_KINDS)
            plan = random_plan(chance, kinds, 3)
            asked = told(random_stand(chance, kinds, 3))
            more = [leading_within(plan, heap) for heap in (asked, told(random_stand(chance, kinds, 3)))]
            if None in more:
                continue
            wall = shuffled_stands(chance, sorted({heap for rounds in more for heap in rounds[-1]}))
            if not wall or not is_barrier(plan, [], asked, wall):
                continue
            tried += 1
            every = [index for index in range(len(wall))
                     if plain_fault(plan, [], asked, wall[:index] + wall[index + 1:]) is None]
            self.assertEqual(needless(plan, [], asked, wall), every)
            left = sorted(told(heap) for heap in wall)
            rounds = 0
            while True:
                before = left
                for heap in sorted(left, reverse=True):
                    less = [one for one in left if one != heap]
                    if plain_fault(plan, [], asked, less) is None:
                        left = less
                rounds += 1
                if left == before:
                    break
            again += rounds > 2
            self.assertEqual(wall_thinned(plan, [], asked, wall), left)
        self.assertGreater(tried, 40)


class OfPlans(Case):

    def test_holds(self):
        self.assertIs(walls_hold(PLAN, [], ASKED, WALL, PLAN), True)
        self.assertIs(walls_hold(PLAN, [], ASKED, WALL, LAXER), False)
        self.assertIs(walls_hold(PLAN, [], ASKED, WALL, other=without_deeds(LAXER, ["shut"])), True)
        self.assertIs(walls_hold(PLAN, [], ASKED, WALL, with_ask(PLAN, "pay", (0, "order", ["new"]))), True)
        self.same_in_all_forms(walls_hold, PLAN, [], ASKED, WALL, LAXER)

    def test_less_at_random(self):
        chance = chance_of(125)
        tried = 0
        for _ in range(150):
            kinds = chance.choice(SOME_KINDS)
            plan = random_plan(chance, kinds, 3)
            asked = told(random_stand(chance, kinds, 3))
            beginning = random_beginning(chance, kinds, 2)
            lists = leading_within(plan, asked)
            if lists is None or not is_barrier(plan, beginning, asked, lists[-1]):
                continue
            tried += 1
            wall = lists[-1]
            name = chance.choice(plan.all_deeds())[0]
            self.assertTrue(walls_hold(plan, beginning, asked, wall, without_deeds(plan, [name])))
            loose = [kind for kind in kinds.all_kinds() if not kinds.lasts(kind)]
            more = with_ask(plan, name, (None, loose[0], []))
            self.assertTrue(walls_hold(plan, beginning, asked, wall, more))
            self.assertEqual(walls_hold(plan, beginning, asked, wall, Plan(kinds, [SWAP[kinds.all_kinds()[0]]])),
                             plain_fault(Plan(kinds, [SWAP[kinds.all_kinds()[0]]]), beginning, asked, wall) is None)
        self.assertGreater(tried, 30)

    def test_least_leading_is_a_wall(self):
        self.assertEqual(least_leading(PLAN, ASKED), TOLD)

    def test_limits(self):
        """Twelve stands of six records, asked of twelve."""
        plan = Plan(SHOPS, [PAY, SHUT, ORDER, SEND])
        asked = [shop("shut", P, P, P, P, P), shop("shut", N, N, N, P, P)]
        wall = [[shop("shut", *one)] for one in (
            [N] * 5, [N] * 4 + [P], [N] * 3 + [P] * 2, [N] * 2 + [P] * 3, [N] + [P] * 4, [P] * 5)]
        seeds = seeds_for(told(shuffled(chance_of(1), [shop("open")])), True)
        self.assertIsNone(self.soon(wall_fault, plan, seeds, asked, wall))
        more = [*wall, *[[shop("shut", *heap[0][2][:4], S)] for heap in wall]]
        unlike = sorted({told(heap) for heap in more})
        self.assertEqual(self.soon(wall_fault, plan, seeds, asked, unlike), plain_fault(plan, seeds, asked, unlike))
        left = self.soon(wall_thinned, plan, seeds, asked, wall)
        self.assertIsNone(plain_fault(plan, seeds, asked, left))
        self.assertEqual(self.soon(needless, plan, seeds, asked, left), [])


# A deed of any of the kinds, that turns each mark of a top one.
SWAP = {"box": ("swap", [("box", None, {"a": "a"})], [], [], [], [], [("box", "a", None)])}
