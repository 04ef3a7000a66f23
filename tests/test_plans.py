"""[6.2] to [6.6]: how deeds are told, plans, plans less."""

import copy

from anywithin.errors import (
    BadAsk, BadDeeds, BadIndex, BadKinds, BadName, BadNameList, BadNames, BadOther, BadPlan,
)
from anywithin.kinds import Kinds, kinds_called
from anywithin.plans import Plan, is_less, plan_called, with_ask, without_ask, without_deeds
from tests.helpers import GREAT, KINDS, ROWS, Case, Sour, as_lists, as_tuples, odd_things

PAY = ("pay", [("shop", None, {"open": "open"}), ("order", 0, {"new": "paid"})], [], [], [], [], [])
SHUT = ("shut", [("shop", None, {"open": "shut"})], [(0, "order", ["paid"])], [], [], [], [])
WHOLE = ("all", [["shop", None, {"shut": None, "open": "open"}], ["order", 0, {"paid": "new"}]],
         [[0, "order", ["paid", "new"]], [None, "line", []]], [[None, "order", {"paid": None, "new": "paid"}]],
         [[0, "order", ["new", 0]]], [[1, ["new", 0]]], [["shop", "open", None], ["line", "ok", ["who", 1]]])
WHOLE_TOLD = ("all", (("shop", None, {"open": "open", "shut": None}), ("order", 0, {"paid": "new"})),
              ((0, "order", ("new", "paid")), (None, "line", ())), ((None, "order", {"new": "paid", "paid": None}),),
              ((0, "order", ("new", 0)),), ((1, ("new", 0)),),
              (("shop", "open", None), ("line", "ok", ("who", 1))))
PLAN = Plan(KINDS, [SHUT, PAY, WHOLE])


class Told(Case):

    def test_deed(self):
        for deed in (WHOLE, as_lists(WHOLE), as_tuples(WHOLE), WHOLE_TOLD):
            told = Plan(KINDS, [deed]).deed("all")
            self.assertEqual(told, WHOLE_TOLD)
            self.assertEqual(repr(told), repr(WHOLE_TOLD))
        self.assertEqual(PLAN.deed(name="shut"), ("shut", (("shop", None, {"open": "shut"}),), ((0, "order",
            ("paid",)),),
                                                  (), (), (), ()))

    def test_all_deeds(self):
        self.assertEqual([deed[0] for deed in PLAN.all_deeds()], ["all", "pay", "shut"])
        self.assertEqual(PLAN.all_deeds()[0], WHOLE_TOLD)
        self.assertEqual(Plan(kinds=KINDS, deeds=()).all_deeds(), [])
        self.assertTrue(PLAN.kinds() == KINDS)

    def test_new_each_time(self):
        self.new_each_time(PLAN.all_deeds)
        for name in ("all", "pay", "shut"):
            self.new_each_time(PLAN.deed, name)
        turn = {"open": "open"}
        twice = Plan(KINDS, [("a", [("shop", None, turn), ("shop", None, turn)], [], [], [], [], [])])
        self.new_each_time(twice.all_deeds)
        self.new_each_time(twice.deed, "a")

    def test_later_changes(self):
        deeds = as_lists([WHOLE, PAY])
        plan = Plan(KINDS, deeds)
        deeds[0][1][0][2]["open"] = "shut"
        deeds[0][2][0][2].append("x")
        deeds[0][6].clear()
        deeds.pop()
        self.assertEqual(plan.deed("all"), WHOLE_TOLD)
        self.assertEqual(len(plan.all_deeds()), 2)
        deeds = as_lists([WHOLE, PAY])
        before = copy.deepcopy(deeds)
        Plan(KINDS, deeds).all_deeds()
        self.assertEqual(deeds, before)

    def test_bad_name(self):
        for name in ("nix", "", None, 5, ["pay"], {}, Sour(), True, b"pay"):
            self.raised(BadName, name, PLAN.deed, name)


class Plans(Case):

    def test_bad_deeds(self):
        for deeds, index in ((None, 0), ("abc", 0), ({}, 0), (Sour(), 0), ([PAY, None], 1), ([PAY, SHUT, PAY], 2),
                             ([PAY, ("pay", [], [], [], [], [], [])], 1), ([SHUT, ("Pay", *PAY[1:])], 1),
                             ([("drop", [("order", None, {"new": None})], [], [], [], [], []), 5], 0)):
            self.raised(BadDeeds, index, Plan, KINDS, deeds)
        for thing in (None, ROWS, Sour(), PLAN):
            self.raised(BadKinds, thing, Plan, thing, None)
        for thing in odd_things():
            if not isinstance(thing, (list, tuple)) or len(thing) > 0:
                self.raised(BadDeeds, 0, Plan, KINDS, thing)

    def test_equal(self):
        self.assertTrue(PLAN == Plan(KINDS, as_lists([PAY, WHOLE, SHUT])))
        self.assertFalse(PLAN != Plan(KINDS, [PAY, WHOLE_TOLD, SHUT]))
        self.assertFalse(PLAN == Plan(KINDS, [PAY, SHUT]))
        other = ("shut", SHUT[1], [(0, "order", ["new"])], [], [], [], [])
        self.assertFalse(Plan(KINDS, [SHUT]) == Plan(KINDS, [other]))
        asks = [(0, "order", []), (None, "order", [])]
        one = ("a", SHUT[1], asks, [], [], [], [])
        self.assertFalse(Plan(KINDS, [one]) == Plan(KINDS, [("a", SHUT[1], asks[::-1], [], [], [], [])]))
        self.assertTrue(Plan(KINDS, [("a", SHUT[1], [(0, "order", ["new", "paid"])], [], [], [], [])])
                        == Plan(KINDS, [("a", SHUT[1], [(0, "order", ["paid", "new"])], [], [], [], [])]))
        rows = [*ROWS[:2], ("line", "order", ["ok", "no"], False)]
        self.assertFalse(Plan(Kinds(rows), [PAY]) == Plan(KINDS, [PAY]))
        self.assertTrue(Plan(Kinds(ROWS[::-1]), [PAY]) == Plan(KINDS, [PAY]))
        for thing in (None, 0, [], KINDS, PLAN.all_deeds(), Sour()):
            self.assertIs(PLAN == thing, False)
            self.assertIs(PLAN != thing, True)


class Less(Case):

    def test_is_less(self):
        asks = [(0, "order", ["paid"]), (None, "line", []), (0, "order", ["paid"])]

        def with_asks(*chosen):
            return Plan(KINDS, [PAY, ("shut", SHUT[1], list(chosen), [], [], [], [])])

        whole = with_asks(asks[0], asks[1])
        self.assertIs(is_less(whole, whole), True)
        for more in (asks, asks[:2], [asks[0], asks[0], asks[1]], [(0, "line", []), *asks], [asks[0], (0, "line", []),
                asks[1]]):
            self.assertIs(is_less(with_asks(*more), other=whole), True)
        for fewer in ([], asks[:1], asks[1:2], asks[1:], [asks[1], asks[0]]):
            self.assertIs(is_less(with_asks(*fewer), whole), False)
            self.assertIs(is_less(plan=whole, other=with_asks(*fewer)), fewer in ([], asks[:1], asks[1:2]))
        self.assertIs(is_less(with_asks((0, "order", ["paid", "new"])), with_asks((0, "order", ["new", "paid"]))), True)
        self.assertIs(is_less(with_asks((0, "order", ["paid"])), with_asks((0, "order", ["new", "paid"]))), False)

    def test_is_less_by_deeds(self):
        self.assertIs(is_less(Plan(KINDS, [PAY]), PLAN), True)
        self.assertIs(is_less(Plan(KINDS, []), PLAN), True)
        self.assertIs(is_less(PLAN, Plan(KINDS, [PAY])), False)
        for place, thing in ((1, [("shop", None, {"open": "shut"}), ("order", 0, {"new": "paid"})]),
                             (3, [(None, "order", {"new": "paid"})]), (6, [("shop", "open", None)]),
                             (4, [(1, "line", ("new", 0))]), (5, [(1, ("who", 0))])):
            deed = list(PAY)
            deed[place] = thing
            if place == 4:
                deed[6] = [("order", "new", ("who", 0))]
            self.assertIs(is_less(Plan(KINDS, [deed]), PLAN), False)
        self.assertIs(is_less(Plan(KINDS, [("pay2", *PAY[1:])]), PLAN), False)

    def test_is_less_errors(self):
        for thing in odd_things():
            self.raised(BadOther, thing, is_less, PLAN, thing)
            self.raised(BadPlan, thing, is_less, thing, thing)
        other = Plan(Kinds(ROWS[:1]), [])
        self.raised(BadOther, other, is_less, PLAN, other)

    def test_without_deeds(self):
        self.assertTrue(without_deeds(PLAN, ["pay", "all"]) == Plan(KINDS, [SHUT]))
        self.assertTrue(without_deeds(plan=PLAN, names=()) == PLAN)
        self.assertTrue(without_deeds(PLAN, ("shut", "all", "pay")) == Plan(KINDS, []))
        for names, index in ((None, 0), ("pay", 0), ({"pay": 1}, 0), (["nix"], 0), (["pay", "pay"], 1), (["pay",
                "Pay"], 1),
                             (["pay", ["shut"]], 1), (["pay", None, "nix"], 1), ([Sour()], 0), (Sour(), 0)):
            self.raised(BadNameList, index, without_deeds, PLAN, names)
        self.raised(BadPlan, KINDS, without_deeds, KINDS, None)

    def test_without_ask(self):
        self.assertEqual(without_ask(PLAN, "all", 0).deed("all")[2], ((None, "line", ()),))
        self.assertEqual(without_ask(plan=PLAN, name="all", index=1).deed("all")[2], ((0, "order", ("new", "paid")),))
        less = without_ask(PLAN, "shut", 0)
        self.assertTrue(less == Plan(KINDS, [PAY, WHOLE, (*SHUT[:2], [], *SHUT[3:])]))
        self.assertEqual(PLAN.deed("shut")[2], ((0, "order", ("paid",)),))
        for index in (2, -1, None, True, False, 0.0, GREAT, "0", Sour()):
            self.raised(BadIndex, index, without_ask, PLAN, "all", index)
        self.raised(BadIndex, 0, without_ask, PLAN, "pay", 0)
        self.raised(BadName, "nix", without_ask, PLAN, "nix", None)
        self.raised(BadPlan, None, without_ask, None, None, None)

    def test_with_ask(self):
        more = with_ask(PLAN, "pay", [1, "line", ["ok"]])
        self.assertEqual(more.deed("pay"), ("pay", Plan(KINDS, [PAY]).deed("pay")[1], ((1, "line", ("ok",)),),
                                            (), (), (), ()))
        self.assertEqual(with_ask(plan=PLAN, name="all", ask=(None, "order", ["paid", "new"])).deed("all")[2],
                         (*WHOLE_TOLD[2], (None, "order", ("new", "paid"))))
        self.assertTrue(is_less(more, PLAN))
        self.assertEqual(with_ask(PLAN, "shut", SHUT[2][0]).deed("shut")[2], ((0, "order", ("paid",)),) * 2)
        for ask in (None, "abc", (0, "shop", []), (None, "shop", ["open"]), (1, "order", []), (2, "line", []),
                    (0, "order", ["ok"]), (0, "order", ["new", "new"]), (0, "order"), (True, "line", []), [], Sour()):
            self.raised(BadAsk, ask, with_ask, PLAN, "pay", ask)
        ask = (1, "line", [])
        self.raised(BadAsk, ask, with_ask, PLAN, "shut", ask)
        self.raised(BadName, None, with_ask, PLAN, None, None)
        self.raised(BadPlan, None, with_ask, None, None, None)

    def test_back_and_forth(self):
        for name in ("all", "pay", "shut"):
            more = with_ask(PLAN, name, (None, "order", ["new"]))
            self.assertFalse(more == PLAN)
            self.assertTrue(without_ask(more, name, len(PLAN.deed(name)[2])) == PLAN)

    def test_plan_called(self):
        names = {"shop": "x", "order": "pay", "line": "z", "open": "m", "shut": "k", "new": "b", "paid": "a", "ok": "x"}
        plan = plan_called(PLAN, names)
        self.assertTrue(plan.kinds() == kinds_called(KINDS, names))
        self.assertEqual(repr(plan.deed("all")), repr((
            "all", (("x", None, {"k": None, "m": "m"}), ("pay", 0, {"a": "b"})),
            ((0, "pay", ("a", "b")), (None, "z", ())), ((None, "pay", {"a": None, "b": "a"}),),
            ((0, "pay", ("new", 0)),), ((1, ("new", 0)),), (("x", "m", None), ("z", "x", ("who", 1))))))
        self.assertEqual([deed[0] for deed in plan.all_deeds()], ["all", "pay", "shut"])
        self.assertTrue(plan_called(plan=PLAN, names={name: name for name in names}) == PLAN)
        for bad in (None, {}, {**names, "new": "a"}, {**names, "pay": "q"}, Sour()):
            self.raised(BadNames, bad, plan_called, PLAN, bad)
        self.raised(BadPlan, None, plan_called, None, None)

    def test_example(self):
        plan = Plan(KINDS, [PAY, SHUT])
        self.assertEqual(plan.deed("pay"), ("pay", (("shop", None, {"open": "open"}), ("order", 0, {"new": "paid"})),
                                            (), (), (), (), ()))
        self.raised(BadDeeds, 1, Plan, KINDS, [PAY, ("drop", [("order", None, {"new": None})], [], [], [], [], [])])
