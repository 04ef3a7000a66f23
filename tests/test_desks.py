"""[22.1] to [22.5]: the desk."""

from anywithin.desks import Desk
from anywithin.errors import BadAsk, BadAsked, BadBeginning, BadIndex, BadKinds, BadName
from anywithin.kinds import Kinds
from anywithin.plans import Plan, with_ask, without_ask, without_deeds
from anywithin.plays import is_bringing
from anywithin.refusals import BadDeed, IsKept, IsThere, LetsIn, NotKept
from anywithin.verdicts import verdict
from tests.helpers import (
    GREAT, KINDS, Case, Sour, as_lists, as_tuples, chance_of, deep, no_beginnings, no_stands, random_beginning,
    random_stand, shuffled, told, told_seeds,
)
from tests.test_most import NO_KINDS
from tests.trials import BIG_KINDS, SOME_KINDS, leading_within, random_deed, random_place, random_plan

PAY = ("pay", [("shop", None, {"open": "open"}), ("order", 0, {"new": "paid"})], [], [], [], [], [])
SHUT = ("shut", [("shop", None, {"open": "shut"})], [(0, "order", ["paid"])], [], [], [], [])
LATE = ("late", [("shop", None, {"shut": "shut"})], [], [], [], [], [("order", "new", ("who", 0))])
BEGUN = [("shop", "open", [("order", "new", [], True)], True)]
ASKED = [("shop", "shut", [("order", "new", [])])]
TOLD = told(ASKED)
WORDS = ["add", "drop", "put_ask", "take_ask", "keep", "free"]
NO_DEEDS = [None, 5, "", [], {}, ("pay", [], [], [], [], []), (5, [], [], [], [], [], []), PAY[:6] + ([("nix", "a", None)],),
            ("late", [("shop", None, {})], [], [], [], [], []), ("late", [5], [], [], [], [], []), Sour(), [Sour()] * 7, deep(50000)]
NO_NAMES = ["", "nix", None, 5, [], {}, b"pay", Sour(), ("pay",)]


def desk_of(*deeds, kept=()):
    """A desk at which these are done, one behind another."""
    desk = Desk(KINDS, BEGUN)
    for deed in deeds:
        desk.add(deed)
    for asked in kept:
        desk.keep(asked)
    return desk


def look(desk):
    """All that a desk tells, also of what can be undone and redone; it is not changed."""
    twin = desk.copy()
    back, forth = [], []
    word = twin.undo()
    while word is not None:
        back.append((word, twin.plan().all_deeds(), twin.kept()))
        word = twin.undo()
    twin = desk.copy()
    word = twin.redo()
    while word is not None:
        forth.append((word, twin.plan().all_deeds(), twin.kept()))
        word = twin.redo()
    return desk.plan().all_deeds(), desk.plan().kinds().all_rows(), desk.beginning(), desk.kept(), back, forth


class Plain:
    """A desk, made plainly: a list of all that was done, and how many of it were not undone."""

    def __init__(self, kinds, begun):
        self.begun = told_seeds(begun)
        self.states = [(None, Plan(kinds, []), [])]
        self.at = 0

    def now(self):
        return self.states[self.at][1:]

    def done(self, word, plan, kept):
        """Do it if no kept pattern comes then; tell the first that does."""
        for asked in kept:
            if verdict(plan, self.begun, asked)[0] == "told":
                return asked
        self.states = [*self.states[:self.at + 1], (word, plan, kept)]
        self.at += 1
        return None

    def undo(self):
        if self.at == 0:
            return None
        self.at -= 1
        return self.states[self.at + 1][0]

    def redo(self):
        if self.at + 1 == len(self.states):
            return None
        self.at += 1
        return self.states[self.at][0]


class Desks(Case):

    def test_example(self):
        desk = desk_of(PAY, SHUT, kept=[ASKED])
        before = look(desk)
        self.lets_in(TOLD, desk.add, LATE)
        self.lets_in(TOLD, desk.take_ask, "shut", 0)
        self.assertEqual(look(desk), before)
        self.assertEqual(desk.plan(), Plan(KINDS, [PAY, SHUT]))
        self.assertEqual((desk.beginning(), desk.kept()), (told_seeds(BEGUN), [TOLD]))

    def lets_in(self, asked, call, *args):
        with self.assertRaises(LetsIn) as caught:
            call(*args)
        self.assertEqual(vars(caught.exception), {"asked": asked})
        return caught.exception

    def test_new_ones(self):
        desk = Desk(kinds=KINDS, beginning=as_lists(BEGUN))
        self.assertEqual(look(desk), ([], KINDS.all_rows(), told_seeds(BEGUN), [], [], []))
        self.refuses(Desk, {"kinds": KINDS, "beginning": BEGUN},
                     [*[("kinds", thing, BadKinds, thing) for thing in NO_KINDS], *no_beginnings(BadBeginning)])

    def test_each_of_the_six(self):
        desk = desk_of(PAY)
        self.assertIsNone(desk.add(deed=SHUT))
        self.assertIsNone(desk.put_ask(name="pay", ask=(0, "line", ["ok"])))
        self.assertIsNone(desk.keep(asked=ASKED))
        self.assertEqual(desk.plan(), with_ask(Plan(KINDS, [PAY, SHUT]), "pay", (0, "line", ["ok"])))
        self.assertIsNone(desk.put_ask("shut", [None, "order", ["paid", "new"]]))
        self.assertEqual(desk.plan().deed("shut")[2], ((0, "order", ("paid",)), (None, "order", ("new", "paid"))))
        self.assertIsNone(desk.take_ask(name="shut", index=1))
        self.assertIsNone(desk.keep([("shop", "shut", [("order", "new", []), ("order", "paid", [])])]))
        self.assertIsNone(desk.free(asked=ASKED))
        self.assertEqual(desk.kept(), [told([("shop", "shut", [("order", "new", []), ("order", "paid", [])])])])
        self.assertIsNone(desk.drop(name="pay"))
        self.assertEqual(desk.plan(), Plan(KINDS, [SHUT]))

    def refused(self, desk, error, keeps, call, *args):
        before = look(desk)
        self.raised(error, keeps, call, *args)
        self.assertEqual(look(desk), before)

    def test_wrong(self):
        """The errors in their order; a call that raises changes nothing, also of what can be undone and redone."""
        desk = desk_of(PAY, SHUT, LATE, kept=[[("shop", "open", [("order", "new", [("line", "ok", [])])])]])
        desk.undo()
        desk.undo()
        before = look(desk)
        self.assertEqual(len(before[5]), 2)
        for deed in NO_DEEDS:
            self.refused(desk, BadDeed, deed, desk.add, deed)
            self.refused(desk, BadDeed, deed, desk.would, deed)
        for call in (desk.add, desk.would):
            name = "".join(["p", "ay"])
            self.refused(desk, IsThere, name, call, (name, *SHUT[1:]))
        for name in NO_NAMES:
            self.refused(desk, BadName, name, desk.drop, name)
            self.refused(desk, BadName, name, desk.put_ask, name, None)
            self.refused(desk, BadName, name, desk.take_ask, name, None)
        for ask in (None, 5, (0, "shop", []), (0, "order", ["nix"]), (1, "order", []), (0, "order", ["new", "new"]), Sour(), (Sour(),) * 3):
            self.refused(desk, BadAsk, ask, desk.put_ask, "shut", ask)
        for index in (1, -1, True, None, "0", 0.0, GREAT, Sour()):
            self.refused(desk, BadIndex, index, desk.take_ask, "shut", index)
        self.refused(desk, BadIndex, 0, desk.take_ask, "pay", 0)
        for _, thing, error, index in no_stands(BadAsked, "asked", ASKED):
            for call in (desk.keep, desk.free):
                self.refused(desk, error, index, call, thing)
        self.assertEqual(look(desk), before)

    def test_kept_as_it_was_passed(self):
        desk = desk_of(kept=[ASKED])
        for asked in (as_lists(ASKED), as_tuples(ASKED)):
            self.refused(desk, IsKept, asked, desk.keep, asked)
        for asked in ([("shop", "shut", [])], []):
            self.refused(desk, NotKept, asked, desk.free, asked)
        desk.free(as_lists(ASKED))
        self.refused(desk, NotKept, ASKED, desk.free, ASKED)

    def test_lets_in_the_first_one(self):
        """The first kept pattern that would come, in the order in which they were kept, the new one last."""
        one, two, three = ([("shop", "shut", [("order", "paid", [])])], ASKED, [("shop", "shut", [])])
        free = (SHUT[0], SHUT[1], [], *SHUT[3:])
        for order in ([one, two, three], [three, two, one], [two, three], [one]):
            desk = desk_of(PAY, kept=order)
            self.lets_in(told(order[0]), desk.add, free)
            self.assertEqual(desk.would(free)[0], told(order[0]))
        desk = desk_of(PAY, kept=[two, one])
        self.lets_in(told(one), desk.add, SHUT)
        # What begins comes; so does what the plan brings.
        desk = desk_of(PAY, kept=[two])
        before = look(desk)
        for asked in ([("shop", "open", [("order", "paid", [])])], [], [("shop", "open", [("order", "new", [])])]):
            self.lets_in(told(asked), desk.keep, as_lists(asked))
        self.assertEqual(look(desk), before)

    def test_tell_new_things(self):
        desk = desk_of(PAY, SHUT, kept=[ASKED])
        plan = desk.plan()
        desk.kept().clear()
        desk.plan().all_deeds().clear()
        desk.plan().deed("pay")[1][0][2].clear()
        self.assertEqual((desk.kept(), desk.plan()), ([TOLD], Plan(KINDS, [PAY, SHUT])))
        desk.drop("pay")
        desk.put_ask("shut", (None, "line", []))
        self.assertEqual(plan, Plan(KINDS, [PAY, SHUT]))
        deed = [list(part) if isinstance(part, tuple) else part for part in as_lists(LATE)]
        begun, asked = as_lists(BEGUN), as_lists(ASKED)
        desk = Desk(KINDS, begun)
        desk.add(deed)
        desk.keep([["shop", "open", [["order", "paid", asked[:0]]]]])
        before = look(desk)
        begun.clear()
        deed[1].clear()
        deed[6].append(5)
        self.assertEqual(look(desk), before)

    def test_would(self):
        desk = desk_of(PAY, SHUT, kept=[ASKED])
        before = look(desk)
        asked, play = desk.would(LATE)
        self.assertEqual(asked, TOLD)
        self.assertIs(is_bringing(Plan(KINDS, [PAY, SHUT, LATE]), BEGUN, ASKED, play), True)
        self.assertEqual(desk.would(deed=as_lists(LATE)), (asked, play))
        self.assertIsNone(desk.would(("more", *PAY[1:])))
        self.assertIsNone(desk_of(PAY).would(LATE))
        self.assertEqual(look(desk), before)


class BackAndForth(Case):

    def test_words(self):
        desk = desk_of(PAY, SHUT, kept=[ASKED])
        desk.put_ask("pay", (0, "order", []))
        desk.take_ask("pay", 0)
        desk.free(ASKED)
        desk.drop("shut")
        there = look(desk)
        words = ["drop", "free", "take_ask", "put_ask", "keep", "add", "add"]
        self.assertEqual([desk.undo() for _ in range(8)], [*words, None])
        self.assertEqual(look(desk)[:4], look(Desk(KINDS, BEGUN))[:4])
        self.assertEqual([desk.redo() for _ in range(8)], [*words[::-1], None])
        self.assertEqual(look(desk), there)

    def test_a_done_one_ends_it(self):
        for done in (lambda desk: desk.add(LATE), lambda desk: desk.drop("pay"), lambda desk: desk.put_ask("pay", (0, "order", [])),
                     lambda desk: desk.keep(ASKED), lambda desk: desk.add(SHUT)):
            desk = desk_of(PAY, SHUT)
            desk.undo()
            self.assertEqual(len(look(desk)[5]), 1)
            done(desk)
            self.assertIsNone(desk.copy().redo())
            self.assertEqual(look(desk)[5], [])
        desk = desk_of(PAY)
        desk.undo()
        desk.add(PAY)
        self.assertEqual([desk.redo(), desk.undo(), desk.undo(), desk.redo()], [None, "add", None, "add"])

    def test_a_refused_one_leaves_it(self):
        desk = desk_of(PAY, SHUT, kept=[ASKED])
        desk.put_ask("pay", (0, "order", []))
        desk.undo()
        for call, args in ((desk.add, (LATE,)), (desk.add, (PAY,)), (desk.take_ask, ("shut", 0)), (desk.keep, (ASKED,)),
                           (desk.free, ([],)), (desk.drop, ("nix",)), (desk.put_ask, ("pay", 5)), (desk.keep, ([],))):
            self.assertRaises(ValueError, call, *args)
            desk.would(LATE)
            self.assertEqual(len(look(desk)[5]), 1)
        self.assertEqual(desk.redo(), "put_ask")

    def test_copies(self):
        desk = desk_of(PAY, SHUT, kept=[ASKED])
        desk.drop("pay")
        desk.undo()
        twin = desk.copy()
        self.assertEqual(look(twin), look(desk))
        self.assertTrue(twin == desk)
        before = look(desk)
        self.assertEqual([twin.redo(), twin.undo(), twin.undo(), twin.undo()], ["drop", "drop", "keep", "add"])
        twin.add(("more", *PAY[1:]))
        self.assertEqual(look(desk), before)
        there = look(twin)
        desk.free(ASKED)
        desk.redo()
        self.assertEqual(look(twin), there)
        self.assertIsNot(desk.copy(), desk)

    def test_equal(self):
        """By plan, beginning, kept patterns in order, and what can be redone; not by what can be undone."""
        one, other = desk_of(PAY, SHUT), desk_of(SHUT, PAY)
        self.assertTrue(one == other and not one != other)
        other.drop("pay")
        other.add(PAY)
        self.assertTrue(one == other)
        mine, theirs = ([("shop", "shut", [("order", "new", [])])], [("shop", "shut", [("order", "new", [])])] * 2)
        one, other = desk_of(kept=[mine, theirs]), desk_of(kept=[theirs, mine])
        self.assertTrue(one != other)
        self.assertTrue(desk_of(PAY) != Desk(KINDS, [*BEGUN, ("shop", "shut", [], False)]))
        self.assertTrue(desk_of(PAY) == desk_of(as_lists(PAY)))
        self.assertTrue(Desk(KINDS, BEGUN) == Desk(KINDS, as_lists(BEGUN)) != desk_of(PAY))
        fewer = Kinds([row for row in KINDS.all_rows() if row[0] != "line"])
        self.assertTrue(Desk(fewer, BEGUN) != Desk(KINDS, BEGUN))
        for thing in (None, 5, "desk", one.plan(), [], KINDS):
            self.assertTrue(one != thing)

    def test_equal_by_what_can_be_redone(self):
        one, other = desk_of(PAY), desk_of(PAY, SHUT)
        other.undo()
        self.assertTrue(one != other)
        one.add(SHUT)
        one.undo()
        self.assertTrue(one == other)
        one.add(LATE)
        one.undo()
        self.assertTrue(one != other)
        # The same is there behind each, by another word.
        one, other = desk_of(PAY), desk_of(PAY)
        one.put_ask("pay", (0, "order", []))
        other.drop("pay")
        other.add(with_ask(Plan(KINDS, [PAY]), "pay", (0, "order", [])).deed("pay"))
        one.undo()
        other.undo()
        self.assertTrue(one != other)
        # The same words, and another thing there on the way.
        one, other = desk_of(), desk_of()
        for desk, deeds in ((one, (PAY, SHUT)), (other, (SHUT, PAY))):
            for deed in deeds:
                desk.add(deed)
            desk.undo()
            desk.undo()
        self.assertTrue(one != other)
        one.redo()
        one.redo()
        other.redo()
        other.redo()
        self.assertTrue(one == other)

    def random_word(self, chance, kinds, plain):
        """A word of the six with what it is passed, and what it leads to, by a plain look; None for nothing."""
        plan, kept = plain.now()
        names = [deed[0] for deed in plan.all_deeds()]
        word = chance.choice([*WORDS, "add", "add", "keep", "keep"])
        if word == "add":
            deed = random_deed(chance, kinds, chance.choice([name for name in "abcdefg" if name not in names]), asks=2, news=1)
            return (word, (deed,), Plan(kinds, [*plan.all_deeds(), deed]), kept)
        if word in ("keep", "free"):
            asked = chance.choice(kept) if word == "free" and kept else told(random_stand(chance, kinds, 3))
            if (asked in kept) != (word == "free"):
                return None
            passed = (shuffled(chance, asked),)
            return (word, passed, plan, [*kept, asked] if word == "keep" else [one for one in kept if one != asked])
        if not names:
            return None
        name = chance.choice(names)
        if word == "drop":
            return (word, (name,), without_deeds(plan, [name]), kept)
        deed = plan.deed(name)
        if word == "take_ask":
            if not deed[2]:
                return None
            index = chance.randrange(len(deed[2]))
            return (word, (name, index), without_ask(plan, name, index), kept)
        pair = random_place(chance, kinds, deed[1], False)
        if pair is None:
            return None
        ask = (*pair, chance.sample(kinds.marks(pair[1]), chance.randint(0, len(kinds.marks(pair[1])) - 1)))
        return (word, (name, ask), with_ask(plan, name, ask), kept)

    def test_by_a_plain_list(self):
        chance = chance_of(235)
        seen = {word: [0, 0] for word in WORDS}
        for _ in range(25):
            kinds = chance.choice(SOME_KINDS)
            begun = random_beginning(chance, kinds, 2)
            desk, plain = Desk(kinds, begun), Plain(kinds, begun)
            for _ in range(30):
                if chance.random() < 0.3:
                    call = chance.choice(["undo", "redo"])
                    self.assertEqual(getattr(desk, call)(), getattr(plain, call)())
                else:
                    found = self.random_word(chance, kinds, plain)
                    if found is None or not self.within(found):
                        continue
                    word, passed, plan, kept = found
                    asked = plain.done(word, plan, kept)
                    seen[word][asked is not None] += 1
                    self.check(desk, word, passed, plan, asked)
                plan, kept = plain.now()
                self.assertEqual((desk.plan(), desk.kept(), desk.beginning()), (plan, kept, plain.begun))
                self.assertTrue(all(verdict(plan, begun, asked)[0] == "never" for asked in kept))
        self.assertTrue(all(done > 3 for done, _ in seen.values()), seen)
        self.assertTrue(all(seen[word][1] > 3 for word in ("add", "keep")), seen)
        self.assertEqual([seen[word][1] for word in ("drop", "put_ask", "free")], [0, 0, 0])

    def within(self, found):
        """Whether the plan that a word leads to is within the limits for each kept pattern."""
        return len(found[2].all_deeds()) < 6 and not any(leading_within(found[2], asked) is None for asked in found[3])

    def check(self, desk, word, passed, plan, asked):
        if word == "add":
            would = desk.would(*passed)
            self.assertEqual(would and would[0], asked)
            if would is not None:
                self.assertIs(is_bringing(plan, desk.beginning(), asked, would[1]), True)
        if asked is None:
            self.assertIsNone(getattr(desk, word)(*passed))
        else:
            with self.assertRaises(LetsIn) as caught:
                getattr(desk, word)(*passed)
            self.assertEqual(caught.exception.asked, asked)

    def test_no_trace_of_order(self):
        """Deeds that are let in leave no trace of their order."""
        chance = chance_of(236)
        for _ in range(20):
            kinds = chance.choice(SOME_KINDS)
            deeds = random_plan(chance, kinds, 4).all_deeds()
            desks = []
            for _ in range(2):
                chance.shuffle(deeds)
                desk = Desk(kinds, [])
                for deed in deeds:
                    desk.add(deed)
                desks.append(desk)
            self.assertTrue(desks[0] == desks[1])

    def test_limits(self):
        """Two kept patterns, thirty deeds of the desk, plans as great as may be."""
        chance = chance_of(237)
        tried = 0
        while tried < 3:
            kinds = chance.choice(BIG_KINDS)
            plan = random_plan(chance, kinds, 5, asks=2, turns=2, pours=1, moves=2, news=2, most=3)
            patterns = [told(random_stand(chance, kinds, 4)) for _ in range(2)]
            if None in [leading_within(plan, asked) for asked in patterns] or patterns[0] == patterns[1] or () in patterns:
                continue
            tried += 1
            desk = Desk(kinds, random_beginning(chance, kinds, 4))
            self.soon(self.thirty, desk, plan, patterns)

    def thirty(self, desk, plan, patterns):
        for _ in range(6):
            for asked in patterns:
                try:
                    desk.keep(asked)
                except ValueError:
                    pass
            for deed in plan.all_deeds():
                try:
                    desk.would(deed)
                    desk.add(deed)
                except ValueError:
                    pass
            for _ in range(3):
                desk.undo()
            desk.redo()
