"""[6.1], [6.2]: deeds, judged; how plans tell them is in test_plans."""

from anywithin.deeds import deed_fault, is_deed
from anywithin.errors import BadKinds
from anywithin.kinds import Kinds
from tests.helpers import GREAT, KINDS, ROWS, Case, Sour, as_lists, as_tuples, odd_things

DEEP = Kinds([
    ("shop", "", ["open", "shut"], False),
    ("firm", "", ["on"], True),
    ("desk", "firm", ["in", "out"], True),
    ("order", "shop", ["new", "paid"], False),
    ("note", "shop", ["here"], False),
    ("line", "order", ["ok", "bad"], False),
])
SHOP, ORDER = ("shop", None, {"open": "open"}), ("order", 0, {"new": "paid"})
PAY = ("pay", [SHOP, ORDER], [], [], [], [], [])


def deed(who=(), asks=(), turns=(), pours=(), moves=(), news=()):
    return ("name", list(who), list(asks), list(turns), list(pours), list(moves), list(news))


TWO = [SHOP, ORDER, ("shop", None, {"shut": "shut"})]


class Form(Case):

    def test_example(self):
        self.assertIs(is_deed(KINDS, PAY), True)
        shut = ("shut", [("shop", None, {"open": "shut"})], [(0, "order", ["paid"])], [], [], [], [])
        self.assertIsNone(deed_fault(KINDS, shut))
        drop = ("drop", [("order", None, {"new": None})], [], [], [], [], [])
        self.assertEqual(deed_fault(KINDS, drop), ("who", 0))
        self.assertIs(is_deed(KINDS, drop), False)

    def test_form(self):
        for name in ("a", "a1234567"):
            self.assertIsNone(deed_fault(DEEP, (name, *deed()[1:])))
        for name in ("", "A", "abcdefghi", "1a", None, 5, b"a", ["a"], True, Sour()):
            self.assertEqual(deed_fault(DEEP, (name, *deed()[1:])), ("form", 0))
        for place in range(1, 7):
            for thing in (None, "", "abc", {}, 5, Sour(), {1}):
                bad = list(deed())
                bad[place] = thing
                self.assertEqual(deed_fault(DEEP, bad), ("form", 0))
        for thing in (deed()[:6], (*deed(), []), (), "abcdefg"):
            self.assertEqual(deed_fault(DEEP, thing), ("form", 0))

    def test_any_object(self):
        for thing in odd_things():
            self.assertEqual(deed_fault(kinds=DEEP, thing=thing), ("form", 0))
            self.assertIs(is_deed(kinds=DEEP, thing=thing), False)
            for place, word in enumerate(("who", "asks", "turns", "pours", "moves", "news"), 1):
                bad = list(deed(TWO))
                bad[place] = [*bad[place], thing]
                self.assertEqual(deed_fault(DEEP, bad), (word, 3 if word == "who" else 0))

    def test_any_object_within(self):
        rows = {
            1: [("shop", None, {"open": "open"}), ("order", 0, {"new": "paid"})],
            2: [(None, "order", ["new"])],
            3: [(None, "order", {"new": "paid"})],
            4: [(0, "order", ("who", 2))],
            5: [(1, ("who", 2))],
            6: [("order", "new", ("who", 0))],
        }
        for place in rows:
            for row in rows[place]:
                for index in range(len(row)):
                    for thing in odd_things():
                        bad = list(deed(TWO))
                        changed = list(row)
                        changed[index] = thing
                        bad[place] = [changed]
                        found = deed_fault(DEEP, bad)
                        self.assertIs(is_deed(DEEP, bad), found is None)
                        if not isinstance(thing, (str, int, list, tuple, dict, type(None))) or isinstance(thing, bool):
                            self.assertEqual(found[0], ("who", "asks", "turns", "pours", "moves", "news")[place - 1])

    def test_bad_kinds(self):
        for thing in (None, ROWS, Sour()):
            self.raised(BadKinds, thing, deed_fault, thing, None)
            self.raised(BadKinds, thing, is_deed, thing, None)

    def test_forms(self):
        whole = ("all", TWO, [(0, "order", ["new"]), (None, "line", [])], [(0, "order", {"new": None})],
                 [(0, "order", ("who", 2)), (0, "note", ("new", 0))], [(1, ("who", 2))],
                 [("shop", "open", None), ("order", "new", ("new", 0)), ("line", "ok", ("who", 1))])
        for thing in (whole, as_lists(whole), as_tuples(whole)):
            self.assertIsNone(deed_fault(DEEP, thing))


class Lists(Case):

    def check(self, word, good, bad, **rest):
        """Each of good is right, each of bad is wrong, there and behind a right one."""
        place = {"who": 1, "asks": 2, "turns": 3, "pours": 4, "moves": 5, "news": 6}[word]
        for row in good:
            whole = list(deed(**rest))
            ahead = len(whole[place])
            whole[place] = [*whole[place], row]
            self.assertIsNone(deed_fault(DEEP, whole), row)
            whole[place][-1] = as_lists(row)
            self.assertIsNone(deed_fault(DEEP, whole), row)
        for row in bad:
            whole = list(deed(**rest))
            ahead = len(whole[place])
            whole[place] = [*whole[place], row, None]
            self.assertEqual(deed_fault(DEEP, whole), (word, ahead), row)
            whole[place][ahead] = as_lists(row)
            self.assertEqual(deed_fault(DEEP, whole), (word, ahead), row)

    def test_who(self):
        good = [SHOP, ("shop", None, {"open": None}), ("shop", None, {"open": "shut", "shut": None}), ORDER,
                ("order", 2, {"paid": "paid"}), ("line", 1, {"ok": "bad"}), ("desk", 3, {"in": None}),
                ("firm", None, {"on": None})]
        bad = [("shop", 0, {"open": "open"}), ("order", None, {"new": "new"}), ("order", 1, {"new": "new"}),
               ("order", 3, {"new": "new"}), ("line", 0, {"ok": "ok"}), ("order", 4, {"new": "new"}),
               ("order", 5, {"new": "new"}), ("order", -1, {"new": "new"}), ("order", False, {"new": "new"}),
               ("order", 0.0, {"new": "new"}), ("order", GREAT, {"new": "new"}), ("shop", None, {}),
               ("shop", None, {"new": "open"}), ("shop", None, {"open": "new"}), ("shop", None, {"open": ""}),
               ("shop", None, {"open": ["open"]}), ("shop", None, {None: "open"}), ("shop", None, [("open", "open")]),
               ("shop", None), ("shop", None, {"open": "open"}, 1), ("nix", None, {"open": "open"}), "abc",
               (["shop"], None, {"open": "open"}), ("shop", None, {"open": False}), ("shop", False, {"open": "open"}),
               ("shop", None, {"open": "open", 5: "open"}), ("shop", None, {Sour(): "open"})]
        self.check("who", good, bad, who=[*TWO, ("firm", None, {"on": "on"})])
        self.check("who", [SHOP], [ORDER])

    def test_asks(self):
        good = [(None, "order", ["new"]), (None, "line", []), (0, "order", ["paid", "new"]), (0, "line", ("ok",)),
                (1, "line", ["bad"]), (2, "note", []), (None, "shop", ["open"])]
        bad = [(None, "firm", ["on"]), (None, "desk", ["in"]), (3, "desk", ["in"]), (0, "shop", ["open"]),
               (1, "order", ["new"]), (1, "note", ["here"]), (3, "order", ["new"]), (4, "order", ["new"]),
               (-1, "order", ["new"]), (False, "order", ["new"]), (0, "order", ["new", "new"]), (0, "order", ["ok"]),
               (0, "order", "new"), (0, "order", {"new": 1}), (0, "order", None), (0, "order", [None]),
               (0, "order", [["new"]]), (0, "order", [Sour()]), (0, "nix", []), (0, ["order"], []), (0, "order"),
               (0, "order", [], 1), "abc", (0.0, "order", []), ("0", "order", [])]
        self.check("asks", good, bad, who=[*TWO, ("firm", None, {"on": "on"})], asks=[(None, "note", [])])

    def test_turns(self):
        good = [(None, "order", {"new": "paid"}), (None, "firm", {"on": None}), (0, "order", {"new": None}),
                (3, "desk", {"in": "out", "out": "in"}), (0, "line", {"ok": "ok"}), (None, "shop", {"open": "shut"})]
        bad = [(0, "shop", {"open": "shut"}), (1, "order", {"new": "paid"}), (4, "order", {"new": "paid"}),
               (0, "order", {}), (0, "order", {"ok": "new"}), (0, "order", {"new": "ok"}), (0, "order", ["new"]),
               (0, "order", None), (0, "desk", {"in": "in"}), (True, "line", {"ok": "ok"}), (0, "order"),
               (0, "order", {"new": "new"}, 1), (0, "nix", {"new": "new"}), "abc"]
        self.check("turns", good, bad, who=[*TWO, ("firm", None, {"on": "on"})],
                   turns=[(None, "order", {"new": "new"})])

    def test_pours(self):
        good = [(0, "order", ("who", 2)), (2, "order", ("who", 0)), (0, "order", ("new", 0)), (1, "line", ("new", 1)),
                (2, "note", ("new", 2))]
        bad = [(0, "order", ("who", 0)), (0, "order", ("who", 1)), (0, "order", ("who", 3)), (0, "order", ("new", 1)),
               (0, "order", ("new", 3)), (0, "note", ("who", 2)), (0, "line", ("who", 1)), (1, "line", ("who", 1)),
               (1, "order", ("who", 2)), (0, "shop", ("who", 2)), (3, "order", ("who", 2)), (False, "order", ("who",
               2)),
               (None, "order", ("who", 2)), (0, "order", None), (0, "order", ("who", True)), (0, "order", ("who",)),
               (0, "order", ("who", 2, 2)), (0, "order", ("whom", 2)), (0, "order", "w2"), (0, "order", (["who"], 2)),
               (0, "order", ("new", -1)), (0, "order", ("new", None)), (0, "order"), (0, "nix", ("who", 2)), "abc",
               (0, ["order"], ("who", 2)), (0, "order", (Sour(), 2))]
        news = [("shop", "open", None), ("order", "new", ("new", 0)), ("shop", "shut", None)]
        self.check("pours", good, bad, who=TWO, pours=[(0, "note", ("who", 2))], news=news)
        # Of one (i, kind) there is one pour, wherever to.
        self.assertEqual(deed_fault(DEEP, deed(TWO, pours=[(0, "order", ("who", 2)), (0, "order", ("new", 0))],
                                               news=news)), ("pours", 1))

    def test_moves(self):
        good = [(1, ("who", 0)), (1, ("who", 2)), (1, ("new", 0)), (3, ("new", 1)), (3, ("who", 1))]
        bad = [(0, ("who", 2)), (1, ("who", 1)), (1, ("new", 1)), (1, None), (1, ("who", 5)), (4, ("who", 1)),
               (3, ("who", 0)), (5, ("who", 0)), (-1, ("who", 0)), (True, ("who", 0)), (1.0, ("who", 0)), (None, None),
               (1,), (1, ("who", 0), 2), (1, "w0"), (1, ["who", False]), "ab", (1, ("new", 2))]
        who = [*TWO, ("line", 1, {"ok": "ok"}), ("line", 1, {"ok": "ok"})]
        news = [("shop", "open", None), ("order", "new", ("new", 0))]
        self.check("moves", good, bad, who=who, moves=[(4, ("who", 1))], news=news)
        self.assertEqual(deed_fault(DEEP, deed(who, moves=[(1, ("who", 0)), (1, ("who", 2))])), ("moves", 1))

    def test_news(self):
        good = [("shop", "open", None), ("order", "new", ("who", 0)), ("order", "paid", ("new", 0)),
                ("line", "bad", ("new", 1)), ("line", "ok", ("who", 1)), ("firm", "on", None)]
        bad = [("shop", "open", ("who", 0)), ("order", "new", None), ("order", "new", ("who", 1)),
               ("order", "new", ("new", 1)), ("order", "new", ("new", 2)), ("order", "new", ("new", 3)),
               ("shop", "new", None), ("shop", ["open"], None), ("shop", None, None), ("nix", "open", None),
               (["shop"], "open", None), ("shop", "open"), ("shop", "open", None, 1), "abc", ("line", "ok", ("who", 0)),
               ("order", "new", ("who", False)), ("order", "new", ("who", 3)), ("shop", "open", False)]
        self.check("news", good, bad, who=TWO, news=[("shop", "open", None), ("order", "new", ("new", 0))])

    def test_news_have_a_kind_before_they_are_judged(self):
        # A pour's spot has its kind by a thing of news that is wrong only by its mark, or by its spot.
        for row, fault in ((("shop", "nix", None), ("news", 0)), (("shop", "open", ("who", 0)), ("news", 0)),
                           (("shop", "open"), ("pours", 0)), (["shop"], ("pours", 0)), (None, ("pours", 0)),
                           ("abc", ("pours", 0)), ((["shop"], 1, 2), ("pours", 0)), (("order", "new", None), ("pours",
                           0))):
            self.assertEqual(deed_fault(DEEP, deed(TWO, pours=[(0, "order", ("new", 0))], news=[row])), fault)
        for row, fault in ((("shop", "nix", None), ("news", 0)), (("shop",), ("moves", 0))):
            self.assertEqual(deed_fault(DEEP, deed(TWO, moves=[(1, ("new", 0))], news=[row])), fault)

    def test_first_of_two_faults(self):
        bad = {"who": [None], "asks": [None], "turns": [None], "pours": [None], "moves": [None], "news": [None]}
        words = list(bad)
        for first in range(6):
            for second in range(first + 1, 6):
                self.assertEqual(deed_fault(DEEP, deed(**{words[first]: [None], words[second]: [None]})),
                                 (words[first], 0))
        self.assertEqual(deed_fault(DEEP, deed(asks=[(None, "note", []), 5, 6])), ("asks", 1))

    def test_many_things_are_soon_judged(self):
        who = [SHOP] * 3000
        pours = [(index, "order", ("who", 0)) for index in range(1, 3000)]
        self.assertIsNone(self.soon(deed_fault, DEEP, deed(who, pours=pours)))
        news = [("shop", "open", None), *[("order", "new", ("new", 0))] * 3000, 5]
        self.assertEqual(self.soon(deed_fault, DEEP, deed(news=news)), ("news", 3001))
