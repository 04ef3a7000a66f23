"""[20.1], [20.2], [20.6]: narrower plans, both plans."""

from anywithin.errors import BadPlan
from anywithin.kinds import Kinds
from anywithin.least import is_above
from anywithin.plans import Plan
from anywithin.plays import is_play, stands_of
from anywithin.refusals import BadNewer, Clash
from anywithin.rounds import least_leading
from anywithin.twoplans import both_plans, first_wider, is_narrower
from anywithin.verdicts import verdict
from anywithin.walls import is_barrier
from tests.helpers import (
    KINDS as OTHERS, SHOPS, Case, Sour, chance_of, no_plans, random_beginning, random_stand, told,
)
from tests.trials import SOME_KINDS, leading_within, random_deed, random_plan, random_play, seeds_for

BOOK = Kinds([("shop", "", ["late", "open", "shut"], False), ("order", "shop", ["new", "paid"], False)])
PAY = ("pay", [("shop", None, {"open": "open"}), ("order", 0, {"new": "paid"})], [], [], [], [], [])
LATE = ("late", [("shop", None, {"shut": "late"})], [], [], [], [], [])
SHUT = ("shut", [("shop", None, {"open": "shut"})], [], [], [], [], [])
OLD, NEW = Plan(BOOK, [PAY, LATE]), Plan(BOOK, [SHUT])

# A deed with something in each list, and others beside which it stands.
WIDE = (
    "wide",
    [("shop", None, {"open": "shut", "shut": "late"}), ("order", 0, {"new": "paid", "paid": None})],
    [(0, "order", ["new", "paid"]), (None, "order", ["paid"])],
    [(0, "order", {"new": "paid"}), (None, "shop", {"late": "open"})],
    [(0, "order", ("new", 0))],
    [(1, ("new", 0))],
    [("shop", "late", None), ("order", "new", ("new", 0))],
)
NARROWER = [
    {}, {1: [("shop", None, {"shut": "late"}), ("order", 0, {"paid": None})]},
    {2: [*WIDE[2], (0, "order", [])]}, {2: WIDE[2][::-1]}, {2: [(0, "order", ["paid"]), (None, "order", [])]},
    {2: [(None, "order", []), (0, "order", ["new"]), (0, "order", ["paid", "new"]), (None, "shop", [])]},
    {1: [("shop", None, {"open": "shut"}), WIDE[1][1]], 2: [(None, "order", ["paid"]), (0, "order", ["paid", "new"])]},
]
NEITHER = [
    {1: [("shop", None, {"open": "late"}), WIDE[1][1]]}, {1: [("shop", None, {"open": None}), WIDE[1][1]]},
    {3: WIDE[3][::-1]}, {3: WIDE[3][:1]}, {3: []}, {3: [(0, "order", {"new": "new"}), WIDE[3][1]]},
    {3: [(None, "order", {"new": "paid"}), WIDE[3][1]]}, {4: []}, {5: []}, {4: [], 5: []},
    {6: [WIDE[6][0]]}, {6: [*WIDE[6], WIDE[6][1]]}, {6: [("shop", "open", None), WIDE[6][1]]},
    {1: [*WIDE[1], ("order", 0, {"new": "paid"})]}, {1: [*WIDE[1], ("shop", None, {"open": "open"})]},
    {2: [(0, "order", ["new", "paid"]), (0, "order", ["paid"])]}, {4: [(0, "order", ("new", 0))], 5: [(1, ("who", 0))]},
]
WIDER = [
    {2: WIDE[2][:1]}, {2: []}, {2: [(0, "order", ["new", "paid"]), (0, "order", ["paid", "new"])]},
    {1: [("shop", None, {"open": "shut", "shut": "late", "late": "open"}), WIDE[1][1]]},
    {2: [(0, "order", ["new", "paid"]), (None, "order", ["paid", "new"])]},
]

NO_NEWER = [None, 5, "plan", [], BOOK, Sour(), Plan(SHOPS, []), Plan(OTHERS, []), Plan(Kinds([]), [])]


def no_newer():
    return [("newer", thing, BadNewer, thing) for thing in NO_NEWER]


def changed(parts, name="wide"):
    """WIDE with other lists at these places."""
    return (name, *[parts.get(index, WIDE[index]) for index in range(1, 7)])


def plan_of(*deeds):
    return Plan(BOOK, list(deeds))


def narrowed(chance, kinds, deed):
    """A deed that is narrower than this one, or like it."""
    name, who, asks, *rest = deed
    less = []
    for kind, lies, turn in who:
        kept = {mark: then for mark, then in turn.items() if chance.random() < 0.7}
        less.append((kind, lies, kept or dict(turn)))
    asked = [(place, kind, [mark for mark in marks if chance.random() < 0.7]) for place, kind, marks in asks]
    fitting = [kind for kind in kinds.all_kinds() if not kinds.lasts(kind)]
    if fitting and chance.random() < 0.5:
        asked.append((None, chance.choice(fitting), []))
    chance.shuffle(asked)
    return (name, less, asked, *rest)


class Narrower(Case):

    def test_by_hand(self):
        wide = plan_of(WIDE)
        for parts in NARROWER:
            self.assertIs(is_narrower(plan_of(changed(parts)), wide), True)
            self.assertIsNone(first_wider(plan_of(changed(parts)), wide))
        for parts in [*NEITHER, *WIDER]:
            self.assertIs(is_narrower(plan_of(changed(parts)), wide), False)
            self.assertEqual(first_wider(plan_of(changed(parts)), wide), "wide")
        for parts in NEITHER:
            self.assertIs(is_narrower(wide, plan_of(changed(parts))), False)
        for parts in WIDER:
            self.assertIs(is_narrower(wide, plan_of(changed(parts))), True)

    def test_names(self):
        """Each deed of plan has to be there in newer, others may be."""
        self.assertEqual(first_wider(OLD, NEW), "late")
        self.assertEqual(first_wider(NEW, OLD), "shut")
        self.assertIsNone(first_wider(plan_of(), NEW))
        self.assertIs(is_narrower(plan_of(PAY), OLD), True)
        self.assertEqual(first_wider(OLD, plan_of(LATE)), "pay")
        self.assertEqual(first_wider(plan_of(PAY, WIDE, LATE), plan_of(PAY, LATE, changed(NEITHER[0]))), "wide")
        self.assertEqual(first_wider(plan_of(changed({}, "pay")), plan_of(PAY)), "pay")

    def test_wrong(self):
        for call in (is_narrower, first_wider, both_plans):
            self.refuses(call, {"plan": OLD, "newer": NEW}, [*no_plans(BadPlan), *no_newer()])

    def test_at_random(self):
        chance = chance_of(204)
        for _ in range(80):
            kinds = chance.choice(SOME_KINDS)
            newer = random_plan(chance, kinds, 4, asks=2, turns=2, pours=1, news=2, most=3)
            kept = [deed for deed in newer.all_deeds() if chance.random() < 0.8]
            plan = Plan(kinds, [narrowed(chance, kinds, deed) for deed in kept])
            self.assertIs(is_narrower(plan, newer), True)
            if not is_narrower(newer, plan):
                names = [deed[0] for deed in newer.all_deeds()]
                mine = [deed[0] for deed in plan.all_deeds()]
                wide = [name for name in names if name not in mine
                        or not is_narrower(Plan(kinds, [newer.deed(name)]), Plan(kinds, [plan.deed(name)]))]
                self.assertEqual(first_wider(newer, plan), wide[0])

    def test_plays_of_the_wider_one(self):
        """Each play of a narrower plan is one of the wider one, with the same stands; least lists likewise."""
        chance = chance_of(205)
        done = 0
        for _ in range(120):
            kinds = chance.choice(SOME_KINDS)
            newer = random_plan(chance, kinds, 3, asks=2, turns=2, pours=1, news=2, most=2)
            plan = Plan(kinds, [narrowed(chance, kinds, deed) for deed in newer.all_deeds()])
            first = random_stand(chance, kinds, 5)
            play = random_play(chance, plan, first, 6)
            seeds = seeds_for(told(first))
            self.assertIs(is_play(newer, seeds, play), True)
            self.assertEqual(stands_of(newer, seeds, play), stands_of(plan, seeds, play))
            asked = told(random_stand(chance, kinds, 3))
            if leading_within(plan, asked) is not None and leading_within(newer, asked) is not None:
                done += 1
                theirs = least_leading(newer, asked)
                self.assertTrue(all(is_above(kinds, theirs, heap) for heap in least_leading(plan, asked)))
        self.assertGreater(done, 40)


class Both(Case):

    def test_by_hand(self):
        self.assertEqual(both_plans(OLD, NEW), plan_of(PAY, LATE, SHUT))
        self.assertEqual(both_plans(plan=OLD, newer=OLD), OLD)
        self.assertEqual(both_plans(plan_of(), plan_of()), plan_of())
        for parts in NARROWER:
            self.assertEqual(both_plans(plan_of(changed(parts), PAY), plan_of(WIDE)), plan_of(WIDE, PAY))
        for parts in WIDER:
            self.assertEqual(both_plans(plan_of(changed(parts), PAY), plan_of(WIDE)), plan_of(changed(parts), PAY))
            self.assertEqual(both_plans(plan_of(WIDE), plan_of(changed(parts), PAY)), plan_of(changed(parts), PAY))

    def test_alike_either_way_about(self):
        """Asks in another order, or twice: newer's stands."""
        for parts in ({2: WIDE[2][::-1]}, {2: [*WIDE[2], WIDE[2][0]]}):
            other = plan_of(changed(parts))
            self.assertNotEqual(other, plan_of(WIDE))
            self.assertEqual(both_plans(other, plan_of(WIDE)), plan_of(WIDE))
            self.assertEqual(both_plans(plan_of(WIDE), other), other)

    def test_clash(self):
        for parts in NEITHER:
            for pair in ((plan_of(changed(parts), PAY), plan_of(WIDE)), (plan_of(WIDE, SHUT), plan_of(changed(parts), LATE))):
                try:
                    both_plans(*pair)
                    self.fail("no Clash")
                except Clash as caught:
                    self.assertEqual(vars(caught), {"name": "wide"})
        names = ("b", "c", "a")
        mine = [changed({}, name) for name in names]
        for theirs, first in (((0, 0, 0), "a"), ((0, 0, None), "b"), ((None, 0, None), "c")):
            newer = [changed({} if at is None else NEITHER[at], name) for at, name in zip(theirs, names)]
            with self.assertRaises(Clash) as caught:
                both_plans(plan_of(*mine), plan_of(*newer))
            self.assertEqual(caught.exception.name, first)
        rows = [[("shop", None, {mark: then}), WIDE[1][1]] for mark, then in WIDE[1][0][2].items()]
        with self.assertRaises(Clash):
            both_plans(plan_of(changed({1: rows[0]})), plan_of(changed({1: rows[1]})))

    def test_new_each_time(self):
        found = both_plans(OLD, NEW)
        found.all_deeds()[0][1][0][2].clear()
        self.assertEqual(both_plans(OLD, NEW), plan_of(PAY, LATE, SHUT))
        self.assertEqual((OLD, NEW), (plan_of(LATE, PAY), plan_of(SHUT)))

    def test_what_comes_by_one_comes_by_both(self):
        chance = chance_of(206)
        words = {"told": 0, "never": 0}
        while min(words.values()) < 30:
            kinds = chance.choice(SOME_KINDS)
            plan = random_plan(chance, kinds, 2, asks=1, turns=1, news=1, most=2)
            newer = Plan(kinds, [random_deed(chance, kinds, name) for name in "xy"] + [
                narrowed(chance, kinds, deed) for deed in plan.all_deeds()[:1]])
            both = both_plans(plan, newer)
            asked = told(random_stand(chance, kinds, 3))
            if leading_within(both, asked) is None:
                continue
            begun = random_beginning(chance, kinds, 2)
            word, shown = verdict(both, begun, asked)
            words[word] += 1
            if word == "never":
                self.assertTrue(is_barrier(plan, begun, asked, shown) and is_barrier(newer, begun, asked, shown))
            for one in (plan, newer):
                if verdict(one, begun, asked)[0] == "told":
                    self.assertEqual(word, "told")

    def test_limits(self):
        kinds = Kinds([("ka", "", list("abcd"), False), ("kb", "ka", list("abcd"), False), ("kc", "kb", list("abcd"), False),
                       ("kd", "ka", list("abcd"), False), ("ke", "", list("abcd"), True)])
        chance = chance_of(207)
        for _ in range(10):
            newer = random_plan(chance, kinds, 5, asks=2, turns=2, pours=1, moves=2, news=2, most=3)
            plan = Plan(kinds, [narrowed(chance, kinds, deed) for deed in newer.all_deeds()])
            self.assertIs(self.soon(is_narrower, plan, newer), True)
            self.assertEqual(self.soon(both_plans, plan, newer), newer)
