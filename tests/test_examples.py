"""All examples of the document, word by word, section by section."""

import unittest

from anywithin.asks import needed_asks, without_idle
from anywithin.anyof import both_verdict
from anywithin.bars import bar, bar_fault
from anywithin.before import least_before
from anywithin.beginnings import begins, lack, lack_fault, sowing
from anywithin.between import plan_under, play_under
from anywithin.deeds import deed_fault, is_deed
from anywithin.desks import Desk
from anywithin.errors import Asked, BadRows, NoRecord, NotThere, Twice
from anywithin.frommore import from_more
from anywithin.gardens import garden_of, wall_of
from anywithin.grounds import Ground
from anywithin.guards import guarded, least_guards, least_openings
from anywithin.handovers import handover_judged
from anywithin.kinds import Kinds
from anywithin.kindtexts import kinds_text, kinds_text_fault
from anywithin.leftout import left_out, thinned
from anywithin.levels import without_kind
from anywithin.lives import life_of, named_at
from anywithin.lots import barring_lots, bringing_lots, idle_deeds, needed_deeds
from anywithin.most import most_of
from anywithin.overlays import overlays
from anywithin.paths import flat_rows, paths_of, without_path
from anywithin.placings import placing, placing_fault
from anywithin.plans import Plan
from anywithin.plantexts import plan_text, plan_text_fault
from anywithin.plays import brings, ends, is_bringing, is_play, news_of, play_fault, stood
from anywithin.playtexts import play_text, read_play
from anywithin.prices import barred_by, cheapest_bar, cheapest_way
from anywithin.refusals import LetsIn
from anywithin.rounds import fewest_deeds, least_leading, round_of, rounds, soonest
from anywithin.safe import safe_beginnings
from anywithin.sizes import all_stands, count_stands
from anywithin.sprouts import is_within, sprouted, stand_outside
from anywithin.stands import stand_fault, told_stand
from anywithin.standtexts import beginning_text, stand_text, stand_text_fault, stands_text
from anywithin.together import together
from anywithin.upgrades import only_mixed, only_together, upgrade
from anywithin.verdicts import judged, settled, verdict
from anywithin.walls import is_barrier, wall_fault
from anywithin.watchers import watched, watched_beginning

ROWS = [("shop", "", ["open", "shut"], True), ("order", "shop", ["paid", "new"], False), ("line", "order", ["ok"], False)]
KINDS = Kinds(ROWS)
N, P, S = ("order", "new", ()), ("order", "paid", ()), ("order", "sent", ())


def deed(name, who, asks=(), turns=(), pours=(), moves=(), news=()):
    return (name, list(who), list(asks), list(turns), list(pours), list(moves), list(news))


def shop(mark, *orders):
    return ("shop", mark, tuple(orders))


STAYS = ("shop", None, {"open": "open"})
# [7.6]
SEVEN = Kinds([("shop", "", ["open", "shut"], False), ("order", "shop", ["new", "sent"], False)])
CLOSE = deed("close", [("shop", None, {"open": "shut"})], [(0, "order", ["sent"])])
SEND = deed("send", [STAYS, ("order", 0, {"new": "sent"})])
PUT = deed("put", [STAYS], news=[("order", "new", ("who", 0))])
CLOSES = Plan(SEVEN, [CLOSE, SEND, PUT])
# [11.5], [12.6]
THREE = Kinds([("shop", "", ["open", "shut"], False), ("order", "shop", ["new", "paid", "sent"], False)])
PAYS = deed("pay", [("shop", None, {"open": "open", "shut": "shut"}), ("order", 0, {"new": "paid"})])


def shuts(*marks):
    return deed("shut", [("shop", None, {"open": "shut"})], [(0, "order", list(marks))] if marks else [])


def book(*marks):
    """The plan of [12.6], shut asking these marks."""
    return Plan(THREE, [
        PAYS, shuts(*marks), deed("open", [], news=[("shop", "open", None)]), deed("order", [STAYS], news=[("order", "new", ("who", 0))]),
        deed("send", [STAYS, ("order", 0, {"paid": "sent"})])])


ASKED = [("shop", "shut", [("order", "paid", [])])]
# [15.6]
FIFTEEN = Kinds([("shop", "", ["open"], False), ("order", "shop", ["new", "paid"], False)])
TAKE = deed("take", [STAYS], [(0, "order", ["paid"])], news=[("order", "new", ("who", 0))])
PAY = deed("pay", [STAYS, ("order", 0, {"new": "paid"})])
TAKES = Plan(FIFTEEN, [TAKE, PAY])
MANY = [("shop", "open", [], True)]
TWICE = (shop("open", N, N),)


class Examples(unittest.TestCase):

    def test_3(self):
        self.assertEqual((KINDS.level("line"), KINDS.within("shop"), KINDS.marks("order")), (3, ["line", "order"], ["new", "paid"]))
        for row in (("line", "line", ["ok"], False), ("line", "order", ["ok"], True)):
            with self.assertRaises(BadRows) as caught:
                Kinds([*ROWS[:2], row])
            self.assertEqual(caught.exception.index, 2)

    def test_4(self):
        stand = [("shop", "open", [("order", "paid", []), ("order", "new", [("line", "ok", [])])])]
        self.assertEqual(told_stand(KINDS, stand), (("shop", "open", (("order", "new", (("line", "ok", ()),)), ("order", "paid", ()))),))
        self.assertEqual(paths_of(KINDS, stand), [(0,), (0, 0), (0, 0, 0), (0, 1)])
        self.assertEqual(flat_rows(KINDS, stand), [("shop", "open", None), ("order", "new", 0), ("line", "ok", 1), ("order", "paid", 0)])
        self.assertEqual(without_path(KINDS, stand, (0, 0)), (("shop", "open", (("order", "paid", ()),)),))
        self.assertEqual(stand_fault(KINDS, [("shop", "open", [("line", "ok", [])])]), ("kind", (0, 0)))
        self.assertEqual([count_stands(KINDS, many) for many in range(4)], [1, 2, 7, 22])
        two = all_stands(KINDS, 2)
        self.assertEqual((two[0], two[-1]), ((shop("open"), shop("open")), (shop("shut", P),)))

    def test_5(self):
        kinds = Kinds([("shop", "", ["open", "shut"], False), ("order", "shop", ["new", "paid"], False)])
        less, more = (shop("open", N), shop("open", N, N)), (shop("open", N, N, N), shop("open", N, P))
        found = {(0,): (1,), (0, 0): (1, 0), (1,): (0,), (1, 0): (0, 0), (1, 1): (0, 1)}
        self.assertIsNone(placing_fault(kinds, less, more, found))
        self.assertEqual({key: place[:1] for key, place in placing(kinds, less, more).items()}, {key: place[:1] for key, place in found.items()})
        both = (shop("open", N, N), shop("open", N, N))
        self.assertIsNone(placing(kinds, both, more))
        self.assertIsNone(bar_fault(kinds, both, more, ([0, 1], [0], {(0, 1): ([0, 1], [0], {}), (1, 1): ([0, 1], [0], {})})))
        self.assertIsNone(bar_fault(kinds, both, more, bar(kinds, both, more)))
        self.assertEqual(overlays(kinds, [shop("open", N)], [shop("open", P)]), [(shop("open", N), shop("open", P)), (shop("open", N, P),)])

    def test_6(self):
        pay = deed("pay", [STAYS, ("order", 0, {"new": "paid"})])
        shut = deed("shut", [("shop", None, {"open": "shut"})], [(0, "order", ["paid"])])
        self.assertTrue(is_deed(KINDS, pay) and is_deed(KINDS, shut))
        self.assertEqual(deed_fault(KINDS, deed("drop", [("order", None, {"new": None})])), ("who", 0))

    def test_7(self):
        ground = Ground(CLOSES, [("shop", "open", [])])
        self.assertEqual([ground.do("put", [0]), ground.do("put", [0])], [[1], [2]])
        with self.assertRaises(Asked) as caught:
            ground.do("close", [0])
        self.assertEqual(caught.exception.index, 0)
        self.assertEqual(ground.do("send", [0, 1]), [])
        self.assertEqual(ground.others("close", [0], 0, "order"), [1, 2])
        ground.delete(2)
        ground.do("close", [0])
        self.assertEqual((ground.stand(), ground.given(), ground.record(2)), ((shop("shut", S),), 3, None))
        for error, word, kept, name, numbers in (
            (NotThere, "index", 0, "put", [0]), (Twice, "number", 0, "send", [0, 0]), (NoRecord, "number", 2, "send", [0, 2])):
            with self.assertRaises(error) as caught:
                ground.do(name, numbers)
            self.assertEqual(vars(caught.exception), {word: kept})

    def test_8(self):
        begun = [("shop", "open", [("order", "new", [], True)], False)]
        stand = [("shop", "open", [("order", "new", []), ("order", "new", [])])]
        self.assertEqual(sowing(SEVEN, begun, stand), {(0,): (0,), (0, 0): (0, 0), (0, 1): (0, 0)})
        two, sent = [("shop", "open", [])] * 2, [("shop", "open", [("order", "sent", [])])]
        self.assertIsNone(lack_fault(SEVEN, begun, two, ([0, 1], [0], {})))
        self.assertIsNone(lack_fault(SEVEN, begun, two, lack(SEVEN, begun, two)))
        self.assertEqual(lack(SEVEN, begun, sent), ([0], [], {(0, 0): ([0], [], {})}))
        self.assertEqual(sprouted(SEVEN, begun, 2), told_stand(SEVEN, stand))
        more = [("shop", "open", [("order", "new", [], True)], True)]
        self.assertEqual([begins(SEVEN, more, one) for one in (stand, two, sent)], [True, True, False])
        self.assertIs(is_within(SEVEN, begun, more), True)
        self.assertEqual(stand_outside(SEVEN, more, begun), (shop("open"), shop("open")))

    PLAY = ([("shop", "open", [])], [("do", "put", [0]), ("do", "put", [0]), ("do", "send", [0, 1]), ("delete", 2), ("do", "close", [0])])

    def test_9(self):
        self.assertIs(is_play(CLOSES, MANY, self.PLAY), True)
        self.assertEqual(news_of(CLOSES, MANY, self.PLAY), [[1], [2], [], [], []])
        asked = [("shop", "shut", [("order", "sent", [])])]
        self.assertIs(brings(CLOSES, MANY, asked, self.PLAY), True)
        self.assertEqual(stood(CLOSES, MANY, asked, self.PLAY), {(0,): 0, (0, 0): 1})
        self.assertEqual([life_of(CLOSES, MANY, self.PLAY, number) for number in (1, 2, 0)], [
            [(0, "new", 0), (2, "sent", 0)], [(1, "new", 0), (3, None, None)], [(-1, "open", None), (4, "shut", None)]])
        self.assertEqual(named_at(CLOSES, MANY, self.PLAY, 1), [2])
        self.assertEqual(play_fault(CLOSES, MANY, (self.PLAY[0], [*self.PLAY[1][:3], self.PLAY[1][4]])), ("asked", 3))
        self.assertEqual(play_fault(CLOSES, MANY, ([("shop", "shut", [])], [])), ("begins", 0))

    def test_10(self):
        first = (shop("open"),)
        self.assertEqual(left_out(CLOSES, MANY, self.PLAY, 0), (first, [("do", "put", [0]), ("delete", 1), ("do", "close", [0])]))
        self.assertIsNone(left_out(CLOSES, MANY, self.PLAY, 3))
        found = thinned(CLOSES, MANY, [("shop", "shut", [])], self.PLAY)
        self.assertEqual(found, (first, [("do", "close", [0])]))
        more, begun = [("shop", "open", [("order", "new", []), ("order", "new", [])])], [("shop", "open", [("order", "new", [], True)], True)]
        led = from_more(CLOSES, begun, found, more)
        self.assertEqual((led[0], sorted(led[1][:2]), led[1][2:]), (
            (shop("open", N, N),), [("delete", 1), ("delete", 2)], [("do", "close", [0])]))
        self.assertEqual(ends(CLOSES, begun, led), (shop("shut"),))

    def test_11(self):
        plan = Plan(THREE, [PAYS, shuts("sent")])
        stand = [("shop", "shut", [("order", "paid", [])])]
        self.assertEqual(least_before(plan, "pay", stand), [(shop("open", N), shop("shut", P)), (shop("shut", N),)])
        self.assertEqual(least_before(plan, "shut", stand), [(shop("open"), shop("shut", P))])

    def test_12(self):
        plan, wall = book("sent"), [[("shop", "shut", [("order", "new", [])])], ASKED]
        self.assertIs(is_barrier(plan, [], ASKED, wall), True)
        self.assertEqual(wall_fault(plan, [], ASKED, wall[1:]), ("before", 0, "pay", (shop("shut", N),)))
        self.assertEqual(wall_fault(book("sent", "new"), [], ASKED, wall), ("before", 0, "shut", (shop("open", N),)))
        play = ([], [("do", "open", []), ("do", "order", [0]), ("do", "shut", [0]), ("do", "pay", [0, 1])])
        self.assertIs(is_bringing(book("sent", "new"), [], ASKED, play), True)

    def test_13(self):
        plan, wall = book("sent"), [(shop("shut", N),), (shop("shut", P),)]
        self.assertEqual(verdict(plan, [], ASKED), ("never", wall))
        play = ((), [("do", "open", []), ("do", "order", [0]), ("do", "pay", [0, 1]), ("do", "send", [0, 1])])
        sent = [("shop", "open", [("order", "sent", [])])]
        self.assertEqual(judged(plan, [], sent, ("told", play)), "told")
        self.assertEqual(verdict(plan, [], sent)[0], "told")
        free = book()
        play = ((), [("do", "open", []), ("do", "order", [0]), ("do", "pay", [0, 1]), ("do", "shut", [0])])
        self.assertEqual(judged(free, [], ASKED, ("told", play)), "told")
        self.assertEqual(verdict(free, [], ASKED)[0], "told")
        plays, there = settled(plan, [], [ASKED, [("shop", "shut", [("order", "sent", [])])]])
        self.assertEqual((list(plays), there), ([1], wall))

    def test_14(self):
        plan = book("new", "sent")
        paid = (shop("shut", P),)
        wanted = [[paid], [(shop("shut", N),), paid], [(shop("open", N),), (shop("shut", N),), paid], [(shop("open"),), (shop("shut", N),), paid], [()]]
        self.assertEqual(rounds(plan, ASKED), wanted)
        self.assertEqual([round_of(plan, ASKED, many) for many in range(6)], [*wanted, [()]])
        self.assertEqual(fewest_deeds(plan, [], ASKED), 4)
        self.assertEqual(soonest(plan, ASKED, [("shop", "shut", [("order", "new", [])])]), 1)
        self.assertEqual(least_leading(book("sent"), ASKED), wanted[1])
        self.assertEqual(verdict(book("sent"), [], ASKED), ("never", wanted[1]))

    def test_15(self):
        self.assertEqual(most_of(TAKES, MANY, ("shop", "open"), ("order", "new"), 2), (1, [TWICE]))
        none, play = most_of(TAKES, MANY, ("shop", "open"), ("order", "paid"), 1)
        self.assertIsNone(none)
        for one in (play, ((shop("open"),), [("do", "take", [0]), ("do", "pay", [0, 1]), ("do", "take", [0]), ("do", "pay", [0, 2])])):
            self.assertIs(is_bringing(TAKES, MANY, [shop("open", P, P)], one), True)
        self.assertEqual(together(TAKES, MANY, ("order", "new"), ("order", "paid"), "beside")[0], "told")
        for stand in ([], [shop("open")], [shop("open", P)], TWICE):
            self.assertEqual(both_verdict(TAKES, MANY, TWICE, stand)[0], "never")

    def test_16(self):
        free = Plan(FIFTEEN, [(*TAKE[:2], [], *TAKE[3:]), PAY])
        self.assertIs(is_bringing(free, MANY, TWICE, ((shop("open"),), [("do", "take", [0]), ("do", "take", [0])])), True)
        menu = [("take", (0, "order", ["paid"])), ("take", (None, "order", ["paid"])), ("pay", (0, "order", ["paid"]))]
        self.assertEqual(least_guards(free, MANY, TWICE, menu), [[0], [1]])
        self.assertEqual(least_openings(free, MANY, TWICE, menu), [[0, 1]])
        again = guarded(guarded(free, menu, [0]), menu, [0])
        self.assertEqual(needed_asks(again, MANY, TWICE), [])
        self.assertEqual([len(one[2]) for one in without_idle(again, MANY, TWICE).all_deeds()], [0, 1])

    def test_17(self):
        asked = (shop("open", P),)
        self.assertEqual(bringing_lots(TAKES, MANY, asked), [["pay", "take"]])
        self.assertEqual(barring_lots(TAKES, MANY, asked), [["pay"], ["take"]])
        self.assertEqual((needed_deeds(TAKES, MANY, asked), idle_deeds(TAKES, MANY, asked)), (["pay", "take"], []))
        plan = Plan(FIFTEEN, [TAKE, PAY, deed("gift", [STAYS], news=[("order", "paid", ("who", 0))])])
        self.assertEqual(bringing_lots(plan, MANY, asked), [["gift"], ["pay", "take"]])
        self.assertEqual(barring_lots(plan, MANY, asked), [["gift", "pay"], ["gift", "take"]])
        self.assertEqual(needed_deeds(plan, MANY, asked), [])
        prices = {"gift": 5, "pay": 1, "take": 2}
        self.assertEqual(cheapest_bar(plan, MANY, asked, prices), (6, ["gift", "pay"]))
        self.assertEqual(cheapest_way(plan, MANY, asked, prices), (3, ["pay", "take"]))
        self.assertEqual(barred_by(plan, MANY, asked, ["take", "gift", "pay"]), 2)

    def test_18(self):
        kinds = Kinds([("shop", "", ["open"], False), ("order", "shop", ["new", "paid", "sent"], False)])
        deeds = [deed(name, [STAYS, ("order", 0, {mark: then})]) for name, mark, then in (
            ("pay", "new", "paid"), ("send", "paid", "sent"), ("rush", "new", "sent"))]
        watcher = ({"new": 0, "paid": 0, "sent": 0}, {(0, "paid"): 1})
        plan, calm = Plan(kinds, deeds), Plan(kinds, deeds[:2])
        asked = (("shop", "open", (("order", "sent0", ()),)),)
        begun = [("shop", "open", [("order", "new", [], True)], True)]
        more, there = watched(plan, "order", watcher), watched_beginning(plan, "order", watcher, begun)
        word, play = verdict(more, there, asked)
        self.assertEqual((word, [step[:2] for step in play[1]]), ("told", [("do", "rush")]))
        self.assertEqual(verdict(watched(calm, "order", watcher), there, asked), ("never", [(("shop", "open", (("order", "paid0", ()),)),), asked]))
        self.assertEqual(more.deed("send")[1][1][2], {"paid0": "sent0", "paid1": "sent1"})
        self.assertEqual(more.deed("pay")[1][1][2], {"new0": "paid1", "new1": "paid1"})

    def test_19(self):
        kinds = Kinds([("shop", "", ["open", "shut"], False), ("order", "shop", ["new", "sent"], False), ("note", "shop", ["here"], False)])
        plan = Plan(kinds, [(*CLOSE[:2], [(0, "order", ["sent"]), (0, "note", [])], *CLOSE[3:]), SEND, PUT])
        self.assertEqual(without_kind(plan, "note"), CLOSES)
        asked, begun = [("shop", "shut", [("order", "new", [])])], [("shop", "open", [("order", "new", [], True)], True)]
        self.assertEqual(verdict(CLOSES, begun, asked), ("never", [(shop("shut", N),)]))
        self.assertEqual(verdict(plan, begun, asked)[0], "never")
        close = plan_under(CLOSES, "all", "one").deed("close")
        self.assertEqual(close[1:3], ((("all", None, {"one": "one"}), ("shop", 0, {"open": "shut"})), ((1, "order", ("sent",)),)))
        self.assertEqual(play_under(CLOSES, MANY, ([("shop", "open", [])], [("do", "put", [0])]), "all", "one"), (
            (("all", "one", (shop("open"),)),), [("do", "put", [0, 1])]))

    def test_20(self):
        kinds = Kinds([("shop", "", ["late", "open", "shut"], False), ("order", "shop", ["new", "paid"], False)])
        plan, newer = Plan(kinds, [PAY, deed("late", [("shop", None, {"shut": "late"})])]), Plan(kinds, [shuts()])
        begun = [("shop", "open", [("order", "new", [], True)], False)]
        self.assertEqual([verdict(one, begun, ASKED)[0] for one in (plan, newer)], ["never", "never"])
        thing = ([("shop", "open", [("order", "new", [])])], [("do", "pay", [0, 1])], [("do", "shut", [0])])
        self.assertEqual(handover_judged(plan, newer, begun, ASKED, ("told", thing)), "told")
        self.assertEqual(upgrade(plan, newer, begun, ASKED), (False, False, True, True))
        self.assertEqual(upgrade(plan, newer, begun, [("shop", "late", [])]), (False, False, False, True))
        self.assertEqual(only_mixed(plan, newer, begun, 2), [(("shop", "late", ()),)])
        self.assertEqual(only_together(plan, newer, begun, 2), [(("shop", "late", ()),), (("shop", "shut", (("order", "paid", ()),)),)])

    def test_21(self):
        one, e = Kinds([("order", "", ["new", "paid"], False)]), ((), ())
        self.assertEqual(garden_of(one, [[P, P]]), [((("order", "paid", e),), (("order", "new", e),))])
        apart = [((), (("order", "new", e),)), ((), (("order", "paid", e),))]
        self.assertEqual((garden_of(one, [[N, P]]), wall_of(one, apart)), (apart, [(N, P)]))
        kinds = Kinds([("shop", "", ["open", "shut"], False), ("order", "shop", ["new", "paid"], False)])
        plan = Plan(kinds, [PAY, shuts()])
        self.assertEqual(least_leading(plan, ASKED), [(shop("open", N),), (shop("open", P),), (shop("shut", P),)])
        self.assertEqual(safe_beginnings(plan, ASKED), [(("shop", "open", (), True), ("shop", "shut", (("order", "new", (), True),), True))])

    def test_22(self):
        desk = Desk(KINDS, [("shop", "open", [("order", "new", [], True)], True)])
        desk.add(PAY)
        desk.add(deed("shut", [("shop", None, {"open": "shut"})], [(0, "order", ["paid"])]))
        desk.keep([("shop", "shut", [("order", "new", [])])])
        late = ("late", [("shop", None, {"shut": "shut"})], [], [], [], [], [("order", "new", ("who", 0))])
        for call, passed in ((desk.add, (late,)), (desk.take_ask, ("shut", 0))):
            with self.assertRaises(LetsIn) as caught:
                call(*passed)
            self.assertEqual(caught.exception.asked, (shop("shut", N),))

    def test_23(self):
        kinds = Kinds([("shop", "", ["open", "shut"], True), ("order", "shop", ["new", "paid"], False)])
        self.assertEqual(kinds_text(kinds), "top shop lasts open shut\nin shop order goes new paid\n")
        self.assertEqual(kinds_text_fault("in shop"), (1, 1))
        self.assertEqual(kinds_text_fault("top shop goes open\nin shop order lasts new\n"), (2, 15))
        self.assertEqual(stand_text(kinds, [shop("shut", P, N)]), "shop:shut(order:new,order:paid)\n")
        self.assertEqual([stand_text_fault(kinds, text) for text in ("shop:shut(line", "shop:open", "")], [(1, 11), (1, 10), (1, 1)])
        self.assertEqual(stands_text(kinds, []), "")
        self.assertEqual(beginning_text(kinds, [("shop", "open", [("order", "new", [], True)], False)]), "shop:open(*order:new)\n")
        plan = Plan(kinds, [PAY])
        self.assertEqual(plan_text(plan), "deed pay\nwho shop top open>open\nwho order 0 new>paid\n")
        self.assertEqual(plan_text_fault(kinds, "deed pay\nwho order"), (2, 5))
        text = "shop:open(order:new)\ndo pay 0 1\n"
        self.assertEqual(play_text(plan, read_play(plan, text)), text)
        self.assertIs(is_play(plan, MANY, read_play(plan, text)), False)
        self.assertIs(is_play(plan, [("shop", "open", [("order", "new", [], False)], False)], read_play(plan, text)), True)
