"""[11.1] to [11.5]: one deed back."""

from anywithin.before import before_all, before_fault, least_before, leads, numbers_to
from anywithin.errors import BadFirst, BadName, BadPlan, BadStand
from anywithin.kinds import Kinds
from anywithin.placings import lies_in
from anywithin.plans import Plan
from tests.helpers import (
    Case, Sour, all_heaps, as_lists, as_tuples, chance_of, no_plans, no_stands, odd_things, plain_lies, random_stand,
    shuffled, size, told, written,
)
from tests.trials import SOME_KINDS, TWO, plain_above, plain_fewer, plain_least, plain_led, random_plan

SHOPS = Kinds([("shop", "", ["open", "shut"], False), ("order", "shop", ["new", "paid", "sent"], False)])
PAY = ("pay", [("shop", None, {"open": "open", "shut": "shut"}), ("order", 0, {"new": "paid"})], [], [], [], [], [])
SHUT = ("shut", [("shop", None, {"open": "shut"})], [(0, "order", ["sent"])], [], [], [], [])
PLAN = Plan(SHOPS, [SHUT, PAY])
N, P, S = ("order", "new", ()), ("order", "paid", ()), ("order", "sent", ())
STAND = [("shop", "shut", [("order", "paid", [])])]
BY_PAY = [(("shop", "open", (N,)), ("shop", "shut", (P,))), (("shop", "shut", (N,)),)]
BY_SHUT = [(("shop", "open", ()), ("shop", "shut", (P,)))]

BAD_NAMES = [("name", thing, BadName, thing) for thing in ("nix", "", None, 5, ["pay"], True, Sour())]


def deed(who=(), asks=(), turns=(), pours=(), moves=(), news=()):
    return ("it", list(who), list(asks), list(turns), list(pours), list(moves), list(news))


def back(kinds, stand, *parts, **lists):
    """The least stands before one deed, and a look whether it leads from each, and from nothing less."""
    plan = Plan(kinds, [deed(*parts, **lists)])
    return least_before(plan, "it", stand)


def shop(mark, *parts):
    return ("shop", mark, tuple(parts))


class Leads(Case):

    def test_example(self):
        self.assertEqual(numbers_to(PLAN, "pay", BY_PAY[0], STAND), [0, 1])
        self.assertEqual(numbers_to(PLAN, "pay", [shop("shut", N, P)], STAND), [0, 1])
        self.assertIs(leads(PLAN, "pay", [shop("shut", N, P)], STAND), True)
        self.assertIs(leads(PLAN, "pay", [shop("shut", P)], STAND), False)
        self.assertIsNone(numbers_to(PLAN, "shut", [shop("open", P)], STAND))
        self.assertEqual(numbers_to(PLAN, "shut", BY_SHUT[0], STAND), [0])

    def test_wrong(self):
        good = {"plan": PLAN, "name": "pay", "first": BY_PAY[0], "stand": STAND}
        for call in (leads, numbers_to):
            self.refuses(call, good, [*no_plans(BadPlan), *BAD_NAMES, *no_stands(BadFirst, "first", BY_PAY[0]),
                                      *no_stands(BadStand, "stand", STAND)])

    def test_forms(self):
        chance = chance_of(111)
        first = [shop("shut", N, P), shop("open", N, S, N)]
        for call in (leads, numbers_to):
            wanted = self.same_in_all_forms(call, PLAN, "pay", first, STAND)
            self.assertEqual(call(PLAN, "pay", shuffled(chance, first), shuffled(chance, STAND)), wanted)
        self.new_each_time(numbers_to, PLAN, "pay", first, STAND)
        self.assertIs(type(numbers_to(PLAN, "pay", first, STAND)), list)

    def test_none_are_named(self):
        plan = Plan(SHOPS, [deed(news=[("shop", "shut", None), ("order", "paid", ("new", 0))])])
        self.assertEqual(numbers_to(plan, "it", [], STAND), [])
        self.assertIs(leads(plan, "it", [], [*STAND, shop("open")]), False)

    def test_nothing_is_deleted_ahead(self):
        self.assertIs(leads(PLAN, "shut", [shop("open", N)], [shop("shut")]), False)
        self.assertIs(leads(PLAN, "shut", [shop("open", N), shop("open", S)], [shop("shut")]), True)
        self.assertEqual(numbers_to(PLAN, "shut", [shop("open", N), shop("open", S)], [shop("shut")]), [2])

    def test_least_numbers_at_random(self):
        chance = chance_of(112)
        for _ in range(300):
            kinds = chance.choice(SOME_KINDS)
            plan = random_plan(chance, kinds, 1, asks=2, turns=2, most=3)
            first = told(random_stand(chance, kinds, 6))
            stand = told(random_stand(chance, kinds, 2))
            ways = [numbers for numbers, end in plain_led(plan, "a", first) if plain_lies(stand, end)]
            self.assertEqual(numbers_to(plan, "a", first, stand), min(ways) if ways else None)
            self.assertIs(leads(plan, "a", first, stand), bool(ways))

    def test_limits(self):
        kinds = Kinds([("box", "", ["a", "b", "c"], False), ("egg", "box", ["x", "y", "z"], False)])
        keep = {"a": "a", "b": "b", "c": "c"}
        first = [("box", mark, parts) for mark in "abc" for parts in (
            [], [("egg", "x", [])], [("egg", "y", [])], [("egg", "z", [])], [("egg", "x", [])] * 2)]
        self.assertEqual(size(first), 30)
        for news in ([], [("box", "a", None)] * 2):
            plan = Plan(kinds, [deed([("box", None, keep)] * 3, [(0, "egg", ["x", "y", "z"])],
                                     [(None, "egg", {"x": "y", "y": "x"})], [(0, "egg", ("who", 1))], [], news)])
            never = [("box", "a", [("egg", "z", [])] * 6)]
            self.assertIsNone(self.soon(numbers_to, plan, "it", first, never))
            self.assertIs(self.soon(leads, plan, "it", [("box", "a", [("egg", "x", [])] * 29)], never), False)
            self.assertIsNone(self.soon(numbers_to, plan, "it", [("box", "a", [])] * 30, never))


class LeastBefore(Case):

    def test_example(self):
        self.assertEqual(least_before(PLAN, "pay", STAND), BY_PAY)
        self.assertEqual(least_before(PLAN, "shut", STAND), BY_SHUT)
        self.assertEqual(before_all(PLAN, STAND), {"pay": BY_PAY, "shut": BY_SHUT})

    def test_wrong(self):
        self.refuses(least_before, {"plan": PLAN, "name": "pay", "stand": STAND},
                     [*no_plans(BadPlan), *BAD_NAMES, *no_stands(BadStand, "stand", STAND)])
        self.refuses(before_all, {"plan": PLAN, "stand": STAND},
                     [*no_plans(BadPlan), *no_stands(BadStand, "stand", STAND)])

    def test_forms(self):
        chance = chance_of(113)
        stand = [shop("shut", P, N), shop("open", S)]
        for call, args in ((least_before, (PLAN, "pay")), (before_all, (PLAN,))):
            wanted = self.same_in_all_forms(call, *args, stand)
            self.assertEqual(call(*args, shuffled(chance, stand)), wanted)
            self.new_each_time(call, *args, stand)
        self.keys_rise(before_all(PLAN, stand))
        self.assertEqual(before_all(Plan(SHOPS, []), stand), {})

    def test_nothing(self):
        self.assertEqual(least_before(PLAN, "shut", []), [(shop("open"),)])
        self.assertEqual(least_before(PLAN, "pay", []), [(shop("open", N),), (shop("shut", N),)])
        self.assertEqual(back(SHOPS, []), [()])
        self.assertEqual(back(SHOPS, STAND), [(shop("shut", P),)])

    def test_news_and_moves(self):
        new = [("shop", "shut", None), ("order", "paid", ("new", 0))]
        self.assertEqual(back(SHOPS, STAND, news=new), [()])
        self.assertEqual(back(SHOPS, [shop("shut", P, P)], news=new), [(shop("shut", P, P),)])
        who = [("shop", None, {"open": None}), ("order", 0, {"new": "paid"})]
        # The order goes with the shop, unless it is moved out of it.
        self.assertEqual(back(SHOPS, STAND, who), [(shop("open", N), shop("shut", P))])
        self.assertEqual(back(SHOPS, STAND, who, moves=[(1, ("new", 0))], news=[("shop", "shut", None)]),
                         [(shop("open", N),)])

    def test_pours(self):
        who = [("shop", None, {"open": None}), ("shop", None, {"open": "shut"})]
        found = back(SHOPS, [shop("shut", P)], who, [], [], [(0, "order", ("who", 1))])
        self.assertEqual(found, [(shop("open"), shop("open"), shop("shut", P)),
                                 (shop("open"), shop("open", P))])
        # What is poured out of the second one is in the first one, or gone with it.
        self.assertEqual(back(SHOPS, [shop("shut", P)], who, [], [], [(1, "order", ("who", 0))]),
                         [(shop("open"), shop("open"), shop("shut", P))])
        self.assertEqual(back(SHOPS, [shop("shut", P)], who[:1], [], [], [(0, "order", ("new", 0))], [],
                              [("shop", "shut", None)]), [(shop("open"), shop("shut", P)), (shop("open", P),)])

    def test_first_fitting_turn(self):
        turns = [(0, "order", {"new": "paid", "sent": None}), (None, "order", {"new": "sent", "paid": "sent"})]
        who = [("shop", None, {"open": "open", "shut": "shut"})]
        self.assertEqual(back(SHOPS, [shop("shut", P)], who, [], turns), [(shop("shut", N),)])
        self.assertEqual(back(SHOPS, [shop("shut", S)], who, [], turns), [
            (shop("open"), shop("shut", N)), (shop("open"), shop("shut", S)), (shop("shut"), shop("shut", N)),
            (shop("shut"), shop("shut", S)), (shop("shut", P),)])

    def test_against_all_small_stands(self):
        """Of all stands of few records the least from which the deed leads are told, and no others."""
        chance = chance_of(114)
        heaps = {index: all_heaps(kinds, 4) for index, kinds in enumerate(SOME_KINDS)}
        for _ in range(400):
            which = chance.randrange(len(SOME_KINDS))
            kinds = SOME_KINDS[which]
            plan = random_plan(chance, kinds, 1, asks=2, turns=2, pours=2, news=2, most=3)
            stand = chance.choice([heap for heap in heaps[which] if size(heap) <= chance.choice([2, 2, 3])])
            found = least_before(plan, "a", stand)
            good = [heap for heap in heaps[which]
                    if any(plain_lies(stand, end) for _, end in plain_led(plan, "a", heap))]
            self.assertEqual([heap for heap in found if size(heap) <= 4], plain_least(good))
            # (b), and (a) of those that are greater.
            self.assertTrue(all(leads(plan, "a", heap, stand) for heap in found))
            self.assertEqual(found, sorted(found))

    def test_from_above_by_deletions(self):
        """(c): from what lies above one of them stand can come by some deletions and this deed."""
        chance = chance_of(115)
        heaps = all_heaps(TWO, 4)
        for _ in range(40):
            plan = random_plan(chance, TWO, 1, asks=2, turns=1)
            stand = chance.choice(heaps[:8])
            found = least_before(plan, "a", stand)
            for heap in chance.sample(heaps, 20):
                there, seen = [heap], []
                while there:
                    one = there.pop()
                    seen.append(one)
                    there.extend(less for less in plain_fewer(TWO, one) if less not in seen and less not in there)
                self.assertEqual(any(leads(plan, "a", one, stand) for one in seen), plain_above(found, heap))

    def test_each_is_told(self):
        """What an other one was ahead of a turn may stand in another order."""
        keep = [("box", None, {"a": "a"})]
        found = back(TWO, [("box", "b", [("egg", "x", []), ("egg", "y", [])])], keep, [],
                     [(None, "egg", {"x": "y", "y": "x"}), (None, "box", {"a": "b"})])
        x, y = ("egg", "x", ()), ("egg", "y", ())
        self.assertEqual(found, [(("box", "a", ()), ("box", "a", (x, y))), (("box", "a", ()), ("box", "b", (x, y)))])
        chance = chance_of(117)
        for _ in range(100):
            kinds = chance.choice(SOME_KINDS)
            plan = random_plan(chance, kinds, 1, turns=2, pours=1, most=2)
            for heap in least_before(plan, "a", random_stand(chance, kinds, 4)):
                self.assertEqual(heap, told(heap))

    def test_limits(self):
        kinds = Kinds([
            ("ka", "", ["a", "b", "c"], False), ("kb", "ka", ["a", "b", "c"], False), ("kc", "kb", ["a", "b", "c"], False),
            ("kd", "ka", ["a", "b", "c"], False), ("ke", "", ["a", "b", "c"], True)])
        turn = {"a": "a", "b": "a", "c": "b"}
        news = [("ka", "a", None), ("kb", "a", ("new", 0))]
        deeds = [
            deed([("ka", None, turn), ("kb", 0, turn), ("kb", 0, turn)], [(0, "kc", ["a", "b"]), (None, "kd", ["a"])],
                 [(0, "kc", turn), (None, "kb", turn)], [(1, "kc", ("who", 2))], [(1, ("new", 0))], news),
            deed([("ka", None, turn), ("ka", None, turn), ("ka", None, turn)], [(None, "kc", ["a", "b", "c"])],
                 [(0, "kb", turn), (None, "ka", turn)], [(0, "kb", ("who", 1))], [], news),
        ]
        a, b = ("kb", "a", ()), ("kb", "a", (("kc", "a", ()),))
        stands = [[("ka", "a", ())] * 6, [("ka", "a", (a, a)), ("ka", "a", (a, a))], [("ka", "a", (a, a, a, a, a))],
                  [("ka", "a", (b, b)), ("ka", "a", ())], [("ka", "a", (b,)), ("ka", "a", (b,))]]
        for one in deeds:
            plan = Plan(kinds, [one])
            for stand in stands:
                found = self.soon(least_before, plan, "it", stand)
                self.assertTrue(all(leads(plan, "it", heap, stand) for heap in found[:20]))
                self.assertIsNone(self.soon(before_fault, plan, "it", stand, found))


class Judged(Case):

    def test_right(self):
        for thing in (BY_PAY, BY_PAY[::-1], as_lists(BY_PAY), as_tuples(BY_PAY), [*BY_PAY, [shop("shut", N, P)]],
                      BY_PAY * 2):
            self.assertIsNone(before_fault(plan=PLAN, name="pay", stand=STAND, thing=thing))
        self.assertIsNone(before_fault(PLAN, "shut", [shop("shut", P)], BY_SHUT))

    def test_form(self):
        for thing in (None, "ab", 5, {}, [5], [None], [*BY_PAY, [5]], [shop("shut")], Sour(), [Sour()]):
            self.assertEqual(before_fault(PLAN, "pay", STAND, thing), ("form", 0))
        for thing in odd_things():
            found = before_fault(PLAN, "pay", STAND, thing)
            self.assertIn(found, [("form", 0), ("leads", 0), ("lacks", BY_PAY[0])])
            if not written(thing).startswith(("[", "(")):
                self.assertEqual(found, ("form", 0))

    def test_leads_and_lacks(self):
        self.assertEqual(before_fault(PLAN, "pay", STAND, []), ("lacks", BY_PAY[0]))
        self.assertEqual(before_fault(PLAN, "pay", STAND, BY_PAY[:1]), ("lacks", BY_PAY[1]))
        self.assertEqual(before_fault(PLAN, "pay", STAND, BY_PAY[1:]), ("lacks", BY_PAY[0]))
        self.assertEqual(before_fault(PLAN, "pay", STAND, [BY_PAY[1], [], STAND]), ("leads", 1))
        self.assertEqual(before_fault(PLAN, "pay", STAND, [[shop("shut", N, P)], BY_PAY[0]]), ("lacks", BY_PAY[1]))
        self.assertEqual(before_fault(PLAN, "pay", STAND, [*BY_PAY, STAND]), ("leads", 2))

    def test_wrong(self):
        good = {"plan": PLAN, "name": "pay", "stand": STAND, "thing": BY_PAY}
        self.refuses(before_fault, good, [*no_plans(BadPlan), *BAD_NAMES, *no_stands(BadStand, "stand", STAND)])
        self.raised(BadStand, 0, before_fault, PLAN, "pay", None, None)

    def test_none_but_lists_above_the_least(self):
        chance = chance_of(116)
        for _ in range(60):
            kinds = chance.choice(SOME_KINDS)
            plan = random_plan(chance, kinds, 1)
            stand = told(random_stand(chance, kinds, 2))
            found = least_before(plan, "a", stand)
            self.assertIsNone(before_fault(plan, "a", stand, shuffled_stands(chance, found)))
            self.assertEqual(before_fault(plan, "a", stand, [heap for heap in found if heap != found[0]]),
                             ("lacks", found[0]) if found else None)
            other = told(random_stand(chance, kinds, 3))
            above = any(lies_in(kinds, heap, other) for heap in found)
            self.assertEqual(before_fault(plan, "a", stand, [*found, other]), None if above else ("leads", len(found)))


def shuffled_stands(chance, heaps):
    """The same stands, each in another order, in lists, themselves in another order."""
    found = [shuffled(chance, heap) for heap in heaps]
    chance.shuffle(found)
    return found
