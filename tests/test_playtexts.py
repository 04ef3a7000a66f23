"""[23.1], [23.6] to [23.8]: plays as text."""

import re

from anywithin.errors import BadPlan, BadSteps
from anywithin.kinds import Kinds
from anywithin.plans import Plan
from anywithin.plays import told_play
from anywithin.playtexts import play_text, play_text_fault, read_play
from anywithin.refusals import BadPlayText
from tests.helpers import GREAT, Case, Sour, as_lists, as_tuples, chance_of, no_plans, odd_things, random_stand, shuffled, told
from tests.test_kindtexts import SHOPS
from tests.test_plantexts import PLAN
from tests.test_standtexts import is_right_line, line_ends, plain_line
from tests.texting import TextCase, bent, plain_fault
from tests.trials import BIG_KINDS, SOME_KINDS, random_plan, random_play, seeds_for

FIRST = [("shop", "open", [("order", "new", [])])]
TEXT = "shop:open(order:new)\ndo pay 0 1\n"
# Names that begin others, with none, one, two and three who.
SHOP, ORDER = ("shop", None, {"open": "open"}), ("order", 0, {"new": "paid"})
CLOSE = Plan(SHOPS, [("a", [], [], [], [], [], []), ("ab", [SHOP], [], [], [], [], []), ("abc", [SHOP, ORDER], [], [], [], [], []),
                     ("b", [SHOP, ORDER, ORDER], [], [], [], [], [])])
STEP = re.compile(r"do ([a-z0-9]+)((?: (?:0|[1-9][0-9]*))*)|delete (0|[1-9][0-9]*)")


def plain_steps(plan, lines):
    """The steps that these lines say, None if they have not the form."""
    needs = {deed[0]: len(deed[1]) for deed in plan.all_deeds()}
    steps = []
    for line in lines:
        found = STEP.fullmatch(line)
        if found is None:
            return None
        name, numbers, number = found.groups()
        if name is None:
            steps.append(("delete", int(number)))
            continue
        if name not in needs or len(numbers.split()) != needs[name]:
            return None
        steps.append(("do", name, [int(one) for one in numbers.split()]))
    return steps


def is_right_for(plan):
    one = is_right_line(plan.kinds(), False)

    def is_right(text):
        lines = text.split("\n")
        return text.endswith("\n") and one(lines[0] + "\n") and plain_steps(plan, lines[1:-1]) is not None
    return is_right


def play_ends(plan):
    first = line_ends(plan.kinds())
    steps = ["delete 0\n", *[" ".join(["do", deed[0], *["0"] * len(deed[1])]) + "\n" for deed in plan.all_deeds()]]
    later = sorted({step[at:] for step in steps for at in range(len(step) + 1)} | {" 0 0\n", " 0 0 0\n", "0 0 0\n"})
    return lambda text: ["", *later] if "\n" in text else first(text)


class PlayText(TextCase):

    def test_example(self):
        self.assertEqual(play_text(PLAN, (FIRST, [("do", "pay", [0, 1])])), TEXT)
        self.assertEqual(read_play(PLAN, TEXT), ((("shop", "open", (("order", "new", ()),)),), [("do", "pay", [0, 1])]))

    def test_written(self):
        self.assertEqual(play_text(plan=PLAN, play=([], [])), "\n")
        self.assertEqual(read_play(plan=PLAN, text="\n"), ((), []))
        steps = [("delete", 0), ["do", "pay", (12, 3)], ("delete", 123456789), ("do", "pay", [7, 7])]
        text = "shop:open shop:shut\ndelete 0\ndo pay 12 3\ndelete 123456789\ndo pay 7 7\n"
        self.assertEqual(play_text(PLAN, ([("shop", "shut", []), ("shop", "open", [])], steps)), text)
        self.assertEqual(read_play(PLAN, text), (
            (("shop", "open", ()), ("shop", "shut", ())),
            [("delete", 0), ("do", "pay", [12, 3]), ("delete", 123456789), ("do", "pay", [7, 7])]))
        self.assertEqual(read_play(CLOSE, "\ndo a\ndo ab 0\ndo abc 1 2\ndo b 3 4 5\n"), (
            (), [("do", "a", []), ("do", "ab", [0]), ("do", "abc", [1, 2]), ("do", "b", [3, 4, 5])]))

    def test_great_numbers(self):
        """Numbers may be greater than those that can be written at once."""
        for number in (GREAT, GREAT - 1, 10 ** 9, 10 ** 9 - 1, 10 ** 18 + 5, 10 ** 27):
            text = play_text(PLAN, ([], [("delete", number), ("do", "pay", [number, 0])]))
            self.assertIsNone(play_text_fault(PLAN, text))
            self.assertTrue(read_play(PLAN, text) == ((), [("delete", number), ("do", "pay", [number, 0])]))
        self.assertEqual(play_text(PLAN, ([], [("delete", 10 ** 18 + 5)])), "\ndelete 1000000000000000005\n")

    def test_faults(self):
        ahead = "shop:open\n"
        self.faults(BadPlayText, read_play, play_text_fault, (PLAN,), [
            ("", (1, 1)), ("shop:open", (1, 10)), ("\n", None), ("\n\n", (2, 1)), ("do pay 0 1\n", (1, 1)), (ahead + "x", (2, 1)), (ahead + "d", (2, 2)),
            (ahead + "do", (2, 3)), (ahead + "do ", (2, 4)), (ahead + "do  ", (2, 4)), (ahead + "do x", (2, 4)), (ahead + "do pay", (2, 7)),
            (ahead + "do pay\n", (2, 7)), (ahead + "do payx", (2, 7)), (ahead + "do pay \n", (2, 8)), (ahead + "do pay 0\n", (2, 9)), (ahead + "do pay 0 ", (2, 10)),
            (ahead + "do pay 0 1", (2, 11)), (ahead + "do pay 0 1 2\n", (2, 11)), (ahead + "do pay 00 1", (2, 9)), (ahead + "do pay 01", (2, 9)),
            (ahead + "do pay -1", (2, 8)), (ahead + "do pay +1", (2, 8)), (ahead + "do pay 1_0", (2, 9)), (ahead + "do pay 1.0", (2, 9)),
            (ahead + "do pay 10 99\n", None), (ahead + "delete 5\n", None), (ahead + "delete", (2, 7)), (ahead + "delete ", (2, 8)), (ahead + "delete \n", (2, 8)),
            (ahead + "delete 5 6\n", (2, 9)), (ahead + "delete 05", (2, 9)), (ahead + "delete x", (2, 8)), (ahead + "deletes", (2, 7)), (ahead + "dx", (2, 2)),
            (ahead + "delete 5\n\n", (3, 1)), (ahead + "delete \u0665\n", (2, 8)), (ahead + "delete 5\u00b2\n", (2, 9)), ("shop:new\n", (1, 6)),
            (ahead + "do pay 0 1\r\n", (2, 11)), (ahead + "Do pay 0 1\n", (2, 1)),
        ])

    def test_names_that_begin_others(self):
        self.faults(BadPlayText, read_play, play_text_fault, (CLOSE,), [
            ("\ndo a\n", None), ("\ndo a ", (2, 5)), ("\ndo a 0", (2, 5)), ("\ndo ab\n", (2, 6)), ("\ndo ab 0\n", None), ("\ndo ab 0 1", (2, 8)),
            ("\ndo abc 0\n", (2, 9)), ("\ndo abcd", (2, 7)), ("\ndo ac", (2, 5)), ("\ndo b 1 2 3\n", None), ("\ndo b 1 2\n", (2, 9)), ("\ndo c", (2, 4)),
        ])
        bare = Plan(SHOPS, [])
        self.faults(BadPlayText, read_play, play_text_fault, (bare,), [
            ("\ndelete 3\n", None), ("\ndo", (2, 2)), ("\nd", (2, 2)), ("\nde", (2, 3)), ("", (1, 1))])
        empty = Plan(Kinds([]), [("a", [], [], [], [], [], [])])
        self.faults(BadPlayText, read_play, play_text_fault, (empty,), [("\ndo a\ndelete 0\n", None), ("s", (1, 1))])

    def test_wrong(self):
        good = {"plan": PLAN, "play": (FIRST, [("do", "pay", [0, 1])])}
        step, wrong = ("do", "pay", [0, 1]), [
            None, 5, "", [], (), ("do",), ("do", "pay"), ("do", "nix", [0, 1]), ("do", "pay", [0]), ("do", "pay", [0, 1, 2]), ("do", "pay", [0, True]),
            ("do", "pay", [0, -1]), ("do", "pay", [0, 1.0]), ("do", "pay", "01"), ("do", "pay", None), ("do", ["pay"], [0, 1]), ("do", "pay", [0, 1], 2),
            ("do", Sour(), [0, 1]), ("do", "pay", [Sour(), 0]), ("delete",), ("delete", -1), ("delete", True), ("delete", None), ("delete", [1]), ("delete", 1, 2),
            ("delete", "1"), ("nix", 1), (Sour(), 1), Sour(), {"do": 1}, "delete", b"delete"]
        bad = [("play", thing, BadSteps, 0) for thing in (
            None, 5, "", [], (), {}, (FIRST,), (FIRST, [], []), (FIRST, None), (FIRST, "x"), (None, []), ([("nix", "a", [])], []), ([("shop", "new", [])], [step]),
            (FIRST, {}), Sour(), (Sour(), []), (FIRST, Sour()), "ab", ([("order", "new", [])], []), ([5], [step, None]))]
        bad += [("play", (FIRST, [step] * many + [thing, None]), BadSteps, many) for many in (0, 2) for thing in wrong]
        self.refuses(play_text, good, [*no_plans(BadPlan), *bad])
        for call in (read_play, play_text_fault):
            self.refuses(call, {"plan": PLAN, "text": "\n"}, no_plans(BadPlan))
            self.raised(BadPlan, None, call, None, None)
        for thing in odd_things():
            if not isinstance(thing, (list, tuple)) or len(thing) != 2:
                self.raised(BadSteps, 0, play_text, PLAN, thing)

    def test_no_strings(self):
        self.no_strings(BadPlayText, read_play, play_text_fault, PLAN)

    def test_forms(self):
        play = ([("shop", "shut", []), ("shop", "open", [("order", "new", [])])], [("do", "pay", [0, 1]), ("delete", 2)])
        wanted = self.same_in_all_forms(play_text, PLAN, play)
        self.assertEqual(play_text(PLAN, (play[0][::-1], play[1])), wanted)
        self.new_each_time(play_text, PLAN, play)
        self.new_each_time(read_play, PLAN, TEXT)
        found = read_play(PLAN, TEXT)
        self.assertEqual([type(found), type(found[1]), type(found[1][0]), type(found[1][0][2])], [tuple, list, tuple, list])

    def test_read_back(self):
        chance = chance_of(246)
        for _ in range(100):
            kinds = chance.choice([*SOME_KINDS, SHOPS, *BIG_KINDS])
            plan = random_plan(chance, kinds, 4, asks=1, news=2, most=3)
            first = random_stand(chance, kinds, 6)
            play = random_play(chance, plan, shuffled(chance, first), 8)
            text = play_text(plan, play)
            self.assertIsNone(play_text_fault(plan, text))
            self.assertEqual(read_play(plan, text), told_play(plan, seeds_for(first), play))
            self.assertEqual(play_text(plan, as_tuples(read_play(plan, text))), text)
            lines = text.split("\n")
            self.assertEqual((plain_line(lines[0] + "\n", False), plain_steps(plan, lines[1:-1])), (
                as_lists(told(first)), told_play(plan, seeds_for(first), play)[1]))

    def test_bent(self):
        chance = chance_of(247)
        seen = {True: 0, False: 0}
        for plan in (PLAN, CLOSE):
            ends, is_right = play_ends(plan), is_right_for(plan)
            for _ in range(600):
                steps = []
                for _ in range(chance.randint(0, 4)):
                    deed = chance.choice(plan.all_deeds())
                    steps.append(chance.choice([("do", deed[0], [chance.randrange(30) for _ in deed[1]]), ("delete", chance.randrange(200))]))
                text = bent(chance, play_text(plan, (random_stand(chance, SHOPS, 3), steps)), ["0", "10", "do", "a", "ab", "delete"])
                found = play_text_fault(plan, text)
                self.assertEqual(found, plain_fault(text, is_right, ends), text)
                seen[found is None] += 1
                if found is None:
                    self.assertEqual(read_play(plan, text)[1], plain_steps(plan, text.split("\n")[1:-1]))
        self.assertGreater(min(seen.values()), 100)


class Limits(Case):

    def test_limits(self):
        steps = [("do", "pay", [123456789, 987654321 - index]) for index in range(120)]
        text = self.soon(play_text, PLAN, (FIRST, steps))
        self.assertGreater(len(text), 3000)
        self.assertEqual(self.soon(read_play, PLAN, text)[1], steps)
        self.assertEqual(self.soon(play_text_fault, PLAN, text + "do pay 1"), (122, 9))
        self.assertIsNone(self.soon(play_text_fault, PLAN, "\ndelete " + "9" * 3000 + "\n"))
