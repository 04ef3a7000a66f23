"""[18.1], [18.2], [18.5], [18.6]: watchers, watched plans, two watchers at once."""

import itertools

from anywithin.errors import BadBeginning, BadKind, BadOther, BadPlan
from anywithin.kinds import Kinds
from anywithin.plans import Plan
from anywithin.refusals import BadWatcher
from anywithin.verdicts import judged, verdict
from anywithin.watchedplays import state_behind
from anywithin.watchers import is_watcher, joined_watcher, watched, watched_beginning
from tests.helpers import (
    GREAT, SHOPS, Case, Sour, chance_of, mutables, no_beginnings, no_plans, odd_things, random_beginning, random_stand,
    shuffled, told_seeds,
)
from tests.trials import SOME_KINDS, random_plan, random_play, seeds_for

KINDS = Kinds([("shop", "", ["open"], False), ("order", "shop", ["new", "paid", "sent"], False)])


def lead(name, mark, then):
    """A deed by which an order in an open shop becomes another one."""
    return (name, [("shop", None, {"open": "open"}), ("order", 0, {mark: then})], [], [], [], [], [])


PAY, SEND, RUSH = lead("pay", "new", "paid"), lead("send", "paid", "sent"), lead("rush", "new", "sent")
PLAN = Plan(KINDS, [PAY, SEND, RUSH])
CALM = Plan(KINDS, [PAY, SEND])
WATCHER = ({"new": 0, "paid": 0, "sent": 0}, {(0, "paid"): 1})
BEGINNING = [("shop", "open", [("order", "new", [], True)], True)]
SENT = (("shop", "open", (("order", "sent0", ()),)),)

# All that a deed can have, of a kind with two marks, one of which goes on as the other one with a figure.
BROAD = Kinds([("bin", "", ["p", "q"], False), ("cup", "bin", ["a", "a1"], False), ("pea", "cup", ["u"], False),
               ("jar", "bin", ["a"], False)])
WIDE = (
    "wide",
    [("bin", None, {"p": "q", "q": None}), ("cup", 0, {"a": "a1", "a1": "a1"}), ("bin", None, {"p": "p"})],
    [(0, "cup", ["a1", "a"]), (None, "cup", []), (2, "jar", ["a"])],
    [(0, "cup", {"a": "a1", "a1": None}), (None, "bin", {"q": "p"}), (2, "cup", {"a1": "a"})],
    [(1, "pea", ("new", 1)), (0, "cup", ("who", 2)), (0, "jar", ("new", 0))],
    [(1, ("new", 0))],
    [("bin", "q", None), ("cup", "a1", ("new", 0)), ("cup", "a", ("who", 2)), ("jar", "a", ("new", 0))],
)
TURNED = {"a": 1, "a1": 0}, {(1, "a1"): 0, (0, "a"): 1, (1, "a"): 0}

NO_WATCHERS = [
    None, 5, "", [], {}, (), ({}, {}), ({"new": 0}, {}), (WATCHER[0],), (*WATCHER, {}), ({**WATCHER[0], "x": 0}, {}),
    ({"new": 0, "paid": 0, "order": 0}, {}), ({"new": 0, "paid": 0, "sent": 4}, {}), ({"new": 0, "paid": 0, "sent": -1}, {}),
    ({"new": 0, "paid": 0, "sent": True}, {}), ({"new": 0, "paid": 0, "sent": 1.0}, {}), ({"new": 0, "paid": 0, "sent": "0"}, {}),
    ({"new": 0, "paid": 0, "sent": GREAT}, {}), ({"new": 0, "paid": 0, "sent": Sour()}, {}),
    (WATCHER[0], []), (WATCHER[0], None), (WATCHER[0], {0: 0}), (WATCHER[0], {("paid", 0): 1}), (WATCHER[0], {(0, "x"): 1}),
    (WATCHER[0], {(4, "paid"): 1}), (WATCHER[0], {(True, "paid"): 1}), (WATCHER[0], {(0.0, "paid"): 1}),
    (WATCHER[0], {(-1, "paid"): 1}), (WATCHER[0], {(0, "paid"): 4}), (WATCHER[0], {(0, "paid"): False}),
    (WATCHER[0], {(0, "paid"): None}), (WATCHER[0], {(0, "paid", 0): 1}), (WATCHER[0], {"0p": 1}), (WATCHER[0], {(0,): 1}),
    (WATCHER[0], {(0, Sour()): 1}), (WATCHER[0], {Sour(): 1}), ({Sour(): 0, "paid": 0, "sent": 0}, {}), Sour(), (Sour(), Sour()),
    (list(WATCHER[0]), {}), "ab",
]
NO_KINDS = ["", "nix", None, 5, [], Sour(), b"order", "new"]


def no_kinds():
    return [("kind", thing, BadKind, thing) for thing in NO_KINDS]


def no_watchers(error=BadWatcher, name="watcher"):
    return [(name, thing, error, thing) for thing in NO_WATCHERS]


def random_watcher(chance, kinds, kind, states=2):
    marks = kinds.marks(kind)
    steps = {}
    for _ in range(chance.randint(0, 4)):
        steps[(chance.randrange(states), chance.choice(marks))] = chance.randrange(states)
    return ({mark: chance.randrange(states) for mark in marks}, steps)


def states_of(watcher):
    """How many states a watcher has."""
    return 1 + max([*watcher[0].values(), *watcher[1].values(), *[state for state, _ in watcher[1]]])


class Watchers(Case):

    def test_right(self):
        for thing in (
            WATCHER, list(WATCHER), ({"sent": 3, "new": 0, "paid": 1}, {}), (WATCHER[0], {(3, "sent"): 3, (0, "new"): 0}),
        ):
            self.assertIs(is_watcher(PLAN, "order", thing), True)
            self.assertIs(is_watcher(plan=PLAN, kind="order", thing=thing), True)
        self.assertIs(is_watcher(PLAN, "shop", ({"open": 0}, {})), True)
        self.assertIs(is_watcher(PLAN, "shop", WATCHER), False)

    def test_any_object(self):
        for thing in [*NO_WATCHERS, *odd_things()]:
            self.assertIs(is_watcher(PLAN, "order", thing), False)
            self.assertIs(is_watcher(PLAN, "order", (thing, {})), False)
            if not isinstance(thing, dict) or thing:
                self.assertIs(is_watcher(PLAN, "order", (WATCHER[0], thing)), False)

    def test_wrong(self):
        self.refuses(is_watcher, {"plan": PLAN, "kind": "order", "thing": None}, [*no_plans(BadPlan), *no_kinds()])
        self.refuses(watched, {"plan": PLAN, "kind": "order", "watcher": WATCHER},
                     [*no_plans(BadPlan), *no_kinds(), *no_watchers()])
        self.refuses(watched_beginning, {"plan": PLAN, "kind": "order", "watcher": WATCHER, "beginning": BEGINNING},
                     [*no_plans(BadPlan), *no_kinds(), *no_watchers(), *no_beginnings(BadBeginning)])

    def test_marks_of_eight_signs(self):
        """Each mark has to have room for a figure; those of other kinds need none."""
        kinds = Kinds([("shop", "", ["abcdefgh"], False), ("order", "shop", ["abcdefg", "b"], False),
                       ("line", "order", ["a", "abcdefgh"], False)])
        plan = Plan(kinds, [])
        for kind in ("shop", "line"):
            self.raised(BadKind, kind, is_watcher, plan, kind, ({"abcdefgh": 0}, {}))
            self.raised(BadKind, kind, watched, plan, kind, None)
        found = watched(plan, "order", ({"abcdefg": 3, "b": 0}, {}))
        self.assertEqual(found.kinds().marks("order"), ["abcdefg0", "abcdefg1", "abcdefg2", "abcdefg3", "b0", "b1", "b2", "b3"])
        self.assertEqual(found.kinds().marks("shop"), ["abcdefgh"])


class Watched(Case):

    def test_example(self):
        found = watched(PLAN, "order", WATCHER)
        self.assertEqual(found.kinds().all_rows(), [
            ("order", "shop", ("new0", "new1", "paid0", "paid1", "sent0", "sent1"), False), ("shop", "", ("open",), False)])
        self.assertEqual(found.deed("send")[1], (("shop", None, {"open": "open"}), ("order", 0, {"paid0": "sent0", "paid1": "sent1"})))
        self.assertEqual(found.deed("pay")[1][1], ("order", 0, {"new0": "paid1", "new1": "paid1"}))
        begun = watched_beginning(PLAN, "order", WATCHER, BEGINNING)
        self.assertEqual(begun, (("shop", "open", (("order", "new0", (), True),), True),))
        word, play = verdict(found, begun, SENT)
        self.assertEqual((word, [step[:2] for step in play[1]]), ("told", [("do", "rush")]))
        calm = watched(CALM, "order", WATCHER)
        wall = [(("shop", "open", (("order", "paid0", ()),)),), SENT]
        self.assertEqual(verdict(calm, begun, SENT), ("never", wall))
        self.assertEqual(judged(calm, begun, SENT, ("never", wall)), "never")

    def test_all_that_a_deed_has(self):
        """Each turn, ask and new one of the kind is led, nothing else is."""
        plan = Plan(BROAD, [WIDE])
        found = watched(plan, "cup", TURNED)
        self.assertEqual(found.kinds(), Kinds([
            ("bin", "", ["p", "q"], False), ("cup", "bin", ["a0", "a1", "a10", "a11"], False), ("pea", "cup", ["u"], False),
            ("jar", "bin", ["a"], False)]))
        # From state 0 "a" leads on to 1, "a1" stays; from 1 both lead to 0.
        self.assertEqual(found.deed("wide"), (
            "wide",
            (("bin", None, {"p": "q", "q": None}), ("cup", 0, {"a0": "a10", "a1": "a10", "a10": "a10", "a11": "a11"}),
             ("bin", None, {"p": "p"})),
            ((0, "cup", ("a0", "a1", "a10", "a11")), (None, "cup", ()), (2, "jar", ("a",))),
            ((0, "cup", {"a0": "a10", "a1": "a10", "a10": None, "a11": None}), (None, "bin", {"q": "p"}),
             (2, "cup", {"a10": "a1", "a11": "a0"})),
            ((1, "pea", ("new", 1)), (0, "cup", ("who", 2)), (0, "jar", ("new", 0))),
            ((1, ("new", 0)),),
            (("bin", "q", None), ("cup", "a10", ("new", 0)), ("cup", "a1", ("who", 2)), ("jar", "a", ("new", 0))),
        ))
        for kind in ("bin", "pea"):
            more = watched(plan, kind, ({mark: 0 for mark in BROAD.marks(kind)}, {}))
            self.assertEqual(more.kinds().marks(kind), [mark + "0" for mark in BROAD.marks(kind)])
            self.assertEqual(more.deed("wide")[4:6], plan.deed("wide")[4:6])

    def test_states_up_to_the_greatest(self):
        for watcher, many in (
            (WATCHER, 2), ((WATCHER[0], {}), 1), ((WATCHER[0], {(2, "new"): 0}), 3), ((WATCHER[0], {(0, "new"): 3}), 4),
            (({"new": 0, "paid": 2, "sent": 0}, {}), 3), ((WATCHER[0], {(3, "new"): 3}), 4),
        ):
            marks = watched(PLAN, "order", watcher).kinds().marks("order")
            self.assertEqual(marks, [f"{mark}{state}" for mark in ("new", "paid", "sent") for state in range(many)])

    def test_seeds_within_seeds(self):
        kinds = Kinds([("bin", "", ["x", "y"], False), ("cup", "bin", ["a", "a1"], False), ("pea", "cup", ["a"], False)])
        plan = Plan(kinds, [])
        begun = [("bin", "y", [("cup", "a1", [("pea", "a", [], True)], False), ("cup", "a", [], True)], True), ("bin", "x", [], False)]
        self.assertEqual(watched_beginning(plan, "cup", ({"a": 1, "a1": 0}, {}), begun), (
            ("bin", "x", (), False),
            ("bin", "y", (("cup", "a1", (), True), ("cup", "a10", (("pea", "a", (), True),), False)), True)))
        self.assertEqual(watched_beginning(plan, "pea", ({"a": 3}, {}), begun[:1]), (
            ("bin", "y", (("cup", "a", (), True), ("cup", "a1", (("pea", "a3", (), True),), False)), True),))
        self.assertEqual(watched_beginning(plan, "bin", ({"x": 0, "y": 1}, {}), []), ())

    def test_forms(self):
        other = ({"sent": 0, "paid": 0, "new": 0}, {(0, "paid"): 1})
        for watcher in (list(WATCHER), other):
            self.assertEqual(watched(plan=PLAN, kind="order", watcher=watcher), watched(PLAN, "order", WATCHER))
        wanted = self.same_in_all_forms(watched_beginning, PLAN, "order", WATCHER, BEGINNING)
        self.assertEqual(watched_beginning(plan=PLAN, kind="order", watcher=other, beginning=BEGINNING), wanted)
        self.new_each_time(watched_beginning, PLAN, "order", WATCHER, BEGINNING)
        watcher = ({"new": 0, "paid": 0, "sent": 0}, {(0, "paid"): 1})
        found = watched(PLAN, "order", watcher)
        watcher[0]["new"] = 1
        watcher[1].clear()
        self.assertEqual(found, watched(PLAN, "order", WATCHER))

    def test_at_random(self):
        """A told beginning, and plans whose deeds are deeds of the watched kinds, whatever deed there was."""
        chance = chance_of(181)
        for _ in range(100):
            kinds = chance.choice(SOME_KINDS)
            plan = random_plan(chance, kinds, 3, asks=2, turns=2, pours=2, news=2, most=3)
            kind = chance.choice(kinds.all_kinds())
            watcher = random_watcher(chance, kinds, kind, 4)
            found = watched(plan, kind, watcher)
            self.assertEqual(found.kinds().all_kinds(), kinds.all_kinds())
            for one in kinds.all_kinds():
                many = len(kinds.marks(one)) * (states_of(watcher) if one == kind else 1)
                self.assertEqual(len(found.kinds().marks(one)), many)
            begun = random_beginning(chance, kinds, 5)
            wanted = watched_beginning(plan, kind, watcher, begun)
            self.assertEqual(wanted, told_seeds(wanted))
            self.assertEqual(wanted, watched_beginning(plan, kind, watcher, shuffled(chance, begun)))


class Joined(Case):

    GOOD = {"plan": PLAN, "kind": "order", "watcher": WATCHER, "other": ({"new": 1, "paid": 0, "sent": 0}, {})}

    def test_by_hand(self):
        """Has once been paid, and was new at first, or became new."""
        other = ({"new": 1, "paid": 0, "sent": 0}, {(0, "new"): 1, (1, "new"): 1})
        self.assertEqual(joined_watcher(PLAN, "order", WATCHER, other), (
            {"new": 1, "paid": 0, "sent": 0},
            {(0, "new"): 1, (0, "paid"): 2, (1, "paid"): 3, (2, "new"): 3}))
        self.assertEqual(joined_watcher(PLAN, "order", other, WATCHER), (
            {"new": 2, "paid": 0, "sent": 0},
            {(0, "new"): 2, (0, "paid"): 1, (1, "new"): 3, (2, "paid"): 3}))

    def test_wrong(self):
        self.refuses(joined_watcher, self.GOOD, [*no_plans(BadPlan), *no_kinds(), *no_watchers(), *no_watchers(BadOther, "other")])

    def test_more_than_four_pairs(self):
        three = ({"new": 2, "paid": 0, "sent": 0}, {})
        one = ({"new": 0, "paid": 0, "sent": 0}, {})
        four = ({"new": 0, "paid": 0, "sent": 0}, {(3, "new"): 0})
        for mine, other in ((three, WATCHER), (WATCHER, three), (three, three), (four, WATCHER), (WATCHER, four), (four, four)):
            self.raised(BadOther, other, joined_watcher, PLAN, "order", mine, other)
        for mine, other in ((three, one), (one, three), (WATCHER, WATCHER), (one, four), (four, one), (one, one)):
            self.assertIs(is_watcher(PLAN, "order", joined_watcher(PLAN, "order", mine, other)), True)

    def test_forms(self):
        chance = chance_of(182)
        for _ in range(40):
            mine, other = (random_watcher(chance, KINDS, "order") for _ in range(2))
            found = joined_watcher(PLAN, "order", mine, other)
            self.assertIs(type(found), tuple)
            for part in found:
                self.keys_rise(part)
            turned = [dict(reversed(list(part.items()))) for part in mine]
            again = joined_watcher(plan=PLAN, kind="order", watcher=turned, other=list(other))
            self.assertEqual(again, found)
            self.assertFalse({id(one) for one in mutables(found)} & {id(one) for one in mutables([mine, other])})
        self.new_each_time(joined_watcher, PLAN, "order", WATCHER, WATCHER)

    def test_just_what_changes(self):
        chance = chance_of(183)
        sizes = [(1, 1), (1, 4), (4, 1), (2, 2), (1, 3), (3, 1), (2, 1), (1, 2)]
        for mine_many, other_many in sizes * 8:
            mine, other = random_watcher(chance, KINDS, "order", mine_many), random_watcher(chance, KINDS, "order", other_many)
            n = states_of(other)
            born, steps = joined_watcher(PLAN, "order", mine, other)
            self.assertEqual(born, {mark: mine[0][mark] * n + other[0][mark] for mark in born})
            wanted = {}
            for s, t, mark in itertools.product(range(states_of(mine)), range(n), born):
                then = mine[1].get((s, mark), s), other[1].get((t, mark), t)
                if then != (s, t):
                    wanted[(s * n + t, mark)] = then[0] * n + then[1]
            self.assertEqual(steps, wanted)

    def test_both_states(self):
        """Behind each play it has the state that says what both have."""
        chance = chance_of(184)
        seen = set()
        for _ in range(150):
            kinds = chance.choice(SOME_KINDS)
            plan = random_plan(chance, kinds, 3, asks=1, turns=2, news=2, most=3)
            kind = chance.choice(kinds.all_kinds())
            mine, other = (random_watcher(chance, kinds, kind) for _ in range(2))
            both = joined_watcher(plan, kind, mine, other)
            first = random_stand(chance, kinds, 4)
            play = random_play(chance, plan, first, 6)
            seeds = seeds_for(first)
            for number in range(20):
                try:
                    state = state_behind(plan, seeds, kind, both, play, number)
                except ValueError:
                    continue
                pair = [state_behind(plan, seeds, kind, one, play, number) for one in (mine, other)]
                if state is None:
                    self.assertEqual(pair, [None, None])
                else:
                    self.assertEqual(state, pair[0] * states_of(other) + pair[1])
                seen.add(state)
        self.assertLessEqual({None, 0, 1, 2, 3}, seen)

    def test_limits(self):
        """Kinds of five marks, two watchers of two states, plans as great as may be."""
        kinds = Kinds([("ka", "", list("abcde"), False), *[(kind, "ka", list("abcde"), False) for kind in ("kb", "kc", "kd", "ke")]])
        chance = chance_of(185)
        for _ in range(10):
            plan = random_plan(chance, kinds, 5, asks=2, turns=2, pours=1, moves=2, news=2, most=3)
            mine, other = (random_watcher(chance, kinds, "kb") for _ in range(2))
            both = joined_watcher(plan, "kb", mine, other)
            self.assertEqual(len(self.soon(watched, plan, "kb", both).all_deeds()), 5)


class Untouched(Case):

    def test_plans_stay(self):
        plan = Plan(SHOPS, [("close", [("shop", None, {"open": "shut"})], [(0, "order", ["sent"])], [], [], [], [])])
        wanted = plan.all_deeds()
        watched(plan, "order", ({"new": 0, "sent": 1}, {}))
        self.assertEqual(plan.all_deeds(), wanted)
        self.assertEqual(plan.kinds(), SHOPS)
