"""[23.1], [23.5], [23.7], [23.8]: plans as text."""

import itertools

from anywithin.deeds import is_deed
from anywithin.errors import BadKinds, BadPlan
from anywithin.kinds import Kinds
from anywithin.plans import Plan
from anywithin.plantexts import plan_text, plan_text_fault, read_plan
from anywithin.refusals import BadPlanText
from tests.helpers import chance_of, no_plans
from tests.test_kindtexts import SHOPS
from tests.test_levels import WIDE_KINDS, WIDE_PLAN
from tests.test_most import NO_KINDS
from tests.texting import TextCase, bent, plain_fault
from tests.trials import BIG_KINDS, SOME_KINDS, random_plan

PAY = ("pay", [("shop", None, {"open": "open"}), ("order", 0, {"new": "paid"})], [], [], [], [], [])
PLAN = Plan(SHOPS, [PAY])
TEXT = "deed pay\nwho shop top open>open\nwho order 0 new>paid\n"
WIDE_TEXT = """deed wide
who bin top p>q
who cup 0 a>b
who van top v>v
who jar 0 c>c
who bin top p>p
who cup 4 b>b
new van v top
new bin q top
new bin p top
new cup a n2
new jar c w4
new cup b w0
ask 0 cup a
ask 4 jar
ask all van v
ask all cup
turn 4 cup a>-
turn all jar c>-
turn all bin q>p
pour 0 cup w4
pour 4 jar n2
pour 4 cup n1
move 1 w4
move 3 n2
move 5 n1
"""

# Two kinds of one level, one of them lasting, and one beneath; names that are the beginnings of others.
NEAR = Kinds([("a", "", ["m", "mm"], False), ("ab", "", ["x"], True), ("b", "a", ["m"], False)])
ORDER = ["who", "new", "ask", "turn", "pour", "move"]


def turn_of(words):
    """A turn of these words, None for none."""
    found = {}
    for word in words:
        parts = word.split(">")
        if len(parts) != 2 or parts[0] in found:
            return None
        found[parts[0]] = None if parts[1] == "-" else parts[1]
    return found or None


def index_of(word, top):
    """The index that a word says, None for the word top, -1 for a wrong word."""
    if word == top:
        return None
    return int(word) if word.isascii() and word.isdigit() and str(int(word)) == word else -1


def spot_of(word):
    at = index_of(word[1:], "") if word[1:] else -1
    return ({"w": "who", "n": "new"}.get(word[:1], "x"), at)


def row_of(words):
    """The thing of a deed that a line says, None for none."""
    word, *rest = words
    if word == "who" and len(rest) > 2:
        return (rest[0], index_of(rest[1], "top"), turn_of(rest[2:]))
    if word == "new" and len(rest) == 3:
        return (rest[0], rest[1], None if rest[2] == "top" else spot_of(rest[2]))
    if word == "ask" and len(rest) > 1:
        return (index_of(rest[0], "all"), rest[1], rest[2:])
    if word == "turn" and len(rest) > 2:
        return (index_of(rest[0], "all"), rest[1], turn_of(rest[2:]))
    if word == "pour" and len(rest) == 3:
        return (index_of(rest[0], ""), rest[1], spot_of(rest[2]))
    if word == "move" and len(rest) == 2:
        return (index_of(rest[0], ""), spot_of(rest[1]))
    return None


def plain_deeds(text):
    """The deeds that the lines of a text say, by a plain look at them, None if they have not the form."""
    if text == "":
        return []
    if not text.endswith("\n"):
        return None
    deeds = []
    for line in text[:-1].split("\n"):
        words = line.split(" ")
        if words[0] == "deed" and len(words) == 2:
            deeds.append((words[1], {word: [] for word in ORDER}))
            continue
        row = row_of(words) if words[0] in ORDER else None
        if not deeds or row is None:
            return None
        if any(deeds[-1][1][later] for later in ORDER[ORDER.index(words[0]) + 1:]):
            return None
        deeds[-1][1][words[0]].append(row)
    return [(name, lists["who"], lists["ask"], lists["turn"], lists["pour"], lists["move"], lists["new"]) for name, lists in deeds]


def is_right_for(kinds):
    def is_right(text):
        deeds = plain_deeds(text)
        if deeds is None or len({deed[0] for deed in deeds}) < len(deeds):
            return False
        return all(is_deed(kinds, deed) for deed in deeds)
    return is_right


def turn_words(marks):
    """All turns of these marks, as words, in any order."""
    found = []
    for many in range(1, len(marks) + 1):
        for order in itertools.permutations(marks, many):
            for goals in itertools.product([*marks, "-"], repeat=many):
                found.append(" ".join(f"{mark}>{goal}" for mark, goal in zip(order, goals)))
    return found


def all_lines(kinds, most):
    """All lines that could stand in a plan of these kinds, indexes below most."""
    indexes = [str(index) for index in range(most)]
    spots = [word + index for word in "wn" for index in indexes]
    lines = []
    for kind in kinds.all_kinds():
        marks = kinds.marks(kind)
        turns = turn_words(marks)
        lines += [f"who {kind} {lies} {turn}" for lies in ["top", *indexes] for turn in turns]
        lines += [f"new {kind} {mark} {spot}" for mark in marks for spot in ["top", *spots]]
        lines += [f"turn {place} {kind} {turn}" for place in ["all", *indexes] for turn in turns]
        for place in ["all", *indexes]:
            lines += [" ".join(["ask", place, kind, *order]) for many in range(len(marks) + 1)
                      for order in itertools.permutations(marks, many)]
        lines += [f"pour {index} {kind} {spot}" for index in indexes for spot in spots]
    lines += [f"move {index} {spot}" for index in indexes for spot in spots]
    return [line + "\n" for line in lines]


def plan_ends(kinds, most):
    """Ends that may follow a beginning of a text: the rest of any line that begins as its last line does."""
    lines = all_lines(kinds, most)

    def ends(text):
        last = text.split("\n")[-1]
        found = [line[len(last):] for line in lines if line.startswith(last)]
        found += [line[len(last):] for line in ("deed q\n", "deed r\n") if line.startswith(last)]
        # A name may go on.
        return ["", *found, *(["\n", "q\n", "r7\n"] if last.startswith("deed ") else [])]
    return ends


class PlanText(TextCase):

    def test_example(self):
        self.assertEqual(plan_text(PLAN), TEXT)
        self.assertEqual(plan_text_fault(SHOPS, "deed pay\nwho order"), (2, 5))

    def test_written(self):
        self.assertEqual(plan_text(plan=WIDE_PLAN), WIDE_TEXT)
        self.assertEqual(read_plan(kinds=WIDE_KINDS, text=WIDE_TEXT), WIDE_PLAN)
        self.assertEqual(plan_text(Plan(SHOPS, [])), "")
        self.assertEqual(read_plan(SHOPS, ""), Plan(SHOPS, []))
        many = Plan(SHOPS, [("b", [("shop", None, {"shut": None, "open": "shut"})], [(0, "order", ["paid", "new"])], [], [], [], []),
                            ("a", [], [], [], [], [], []), ("a1", [], [(None, "order", [])], [], [], [], [("shop", "shut", None)])])
        text = "deed a\ndeed a1\nnew shop shut top\nask all order\ndeed b\nwho shop top open>shut shut>-\nask 0 order new paid\n"
        self.assertEqual(plan_text(many), text)
        self.assertEqual(read_plan(SHOPS, text), many)

    def test_any_order(self):
        text = "deed b\nwho shop top shut>- open>shut\nask 0 order paid new\ndeed a1\nnew shop shut top\nask all order\ndeed a\n"
        self.assertEqual(plan_text(read_plan(SHOPS, text)), (
            "deed a\ndeed a1\nnew shop shut top\nask all order\ndeed b\nwho shop top open>shut shut>-\nask 0 order new paid\n"))
        self.assertIsNone(plan_text_fault(kinds=SHOPS, text=text))

    def test_faults(self):
        deed = "deed d\n"
        shop, order = deed + "who shop top open>open\n", deed + "who shop top open>open\nwho order 0 new>new\n"
        self.faults(BadPlanText, read_plan, plan_text_fault, (SHOPS,), [
            ("d", (1, 2)), ("x", (1, 1)), ("\n", (1, 1)), ("deed", (1, 5)), ("deed ", (1, 6)), ("deed \n", (1, 6)), ("deed 1", (1, 6)),
            ("deed a b", (1, 7)), ("deed abcdefghi", (1, 14)), ("deed a", (1, 7)), ("deed a\n", None), ("deed a\n\n", (2, 1)),
            ("deed a\ndeed a\n", (2, 7)), ("deed a\ndeed ab\n", None), ("deed abcdefgh\ndeed abcdefgh\n", (2, 13)), ("who shop", (1, 1)),
            (deed + "who  ", (2, 5)), (deed + "who shop 0", (2, 10)), (deed + "who shop top\n", (2, 13)), (deed + "who shop top \n", (2, 14)),
            (deed + "who shop top open\n", (2, 18)), (deed + "who shop top open>\n", (2, 19)), (deed + "who shop top open>new", (2, 19)),
            (deed + "who shop top open>- open>-\n", (2, 21)), (deed + "who shop top open>- shut>- \n", (2, 27)),
            (deed + "who shop top open>--", (2, 20)), (deed + "who shop top open>shut shut>open\n", None),
            (deed + "move", (2, 1)), (deed + "pour", (2, 1)), (deed + "turn 0", (2, 6)), (deed + "ask 0", (2, 5)), (deed + "ask all shop", (2, 9)),
            (deed + "ask all order\n", None), (deed + "ask all order \n", (2, 15)), (deed + "ask all order new new", (2, 19)),
            (deed + "ask all order new paid\n", None), (deed + "ask all order new paid ", (2, 23)), (deed + "ask all order new \n", (2, 19)),
            (deed + "new order", (2, 5)), (deed + "new shop open w0", (2, 15)), (deed + "new shop new", (2, 10)), (deed + "new shop open top \n", (2, 18)),
            (deed + "turn all order new>paid\n", None), (deed + "turn all shop\n", (2, 14)), (deed + "turn all shop open>shut\nask", (3, 1)),
            (shop + "who order top", (3, 11)), (shop + "who order 1", (3, 11)), (shop + "who order 00", (3, 12)), (shop + "ask 0 shop", (3, 7)),
            (shop + "who order 0 new>paid\nwho order 1", (4, 11)), (shop + "pour", (3, 1)), (shop + "move", (3, 1)), (shop + "who order -0", (3, 11)),
            (shop + "who shop top shut>shut\npour 0 order w1\n", None), (shop + "who shop top shut>shut\npour 0 order w0\n", (4, 15)),
            (shop + "new shop open top\npour 0 order n0\npour 0", (5, 1)), (shop + "new shop open top\npour 0 shop", (4, 8)),
            (shop + "new shop open top\npour 1", (4, 6)), (shop + "new shop open top\npour 0 order n1", (4, 15)),
            (shop + "new shop open top\nnew order new n1", (4, 16)), (shop + "new shop open top\nnew order new w0\nnew order paid n0\n", None),
            (shop + "new order new n", (3, 15)), (order + "move 1 w0\n", None), (order + "move 0", (4, 6)), (order + "move 1 w1", (4, 9)),
            (order + "move 1 w0\nmove", (5, 1)), (order + "move 1 w0\ndeed d\n", (5, 7)), (order + "move 1 w0\nnew", (5, 1)),
            (order + "pour", (4, 1)), (order + "ask 1", (4, 5)), (order + "turn 1", (4, 6)), (order + "ask 0 order new\nwho", (5, 1)),
            (order + "ask 0 order new\nask 0 order new\n", None), (order + "turn 0 order new>- paid>new\nturn all shop open>-\n", None),
        ])

    def test_numbers_of_two_figures(self):
        """Which indexes may stand there hangs on the rows ahead."""
        rows = "who shop top open>open\n" * 11
        text = "deed d\n" + rows
        self.faults(BadPlanText, read_plan, plan_text_fault, (SHOPS,), [
            (text + "who order 1 new>new\n", None), (text + "who order 10 new>new\n", None), (text + "who order 11", (13, 12)),
            (text + "who order 100", (13, 13)), (text + "who order 2 new>new\n", None), (text + "who order 20", (13, 12)), (text + "who order 01", (13, 12)),
            (text + "ask 10 order\nask 1 order\n", None), (text + "pour 10 order w1\npour 10 order", (14, 7)), (text + "pour 10 order w10", (13, 17)),
            (text + "pour 1 order w1\n", (13, 16)), (text + "pour 1 order w10\npour 1", (14, 7)), (text + "pour 1 order w10\npour 10 order w1\n", None),
        ])

    def test_lasting_kinds(self):
        """No asks of kinds that last; where all last there is no ask at all."""
        all_last = Kinds([("a", "", ["x"], True), ("b", "a", ["y"], True)])
        self.faults(BadPlanText, read_plan, plan_text_fault, (all_last,), [
            ("deed d\na", (2, 1)), ("deed d\nturn all b y>-\n", None), ("deed d\nwho a top x>x\nask", (3, 1))])
        self.faults(BadPlanText, read_plan, plan_text_fault, (NEAR,), [
            ("deed d\nask all ab", (2, 10)), ("deed d\nask all a m mm\n", None), ("deed d\nwho ab top x>x\nask 0", (3, 5)),
            ("deed d\nwho a top mm>m m>m\nask 0 b m\n", None), ("deed d\nwho a top m>mm mm", (2, 18)), ("deed d\nask all a mm m ", (2, 15))])
        self.faults(BadPlanText, read_plan, plan_text_fault, (Kinds([]),), [
            ("", None), ("deed d\n", None), ("deed d\nw", (2, 1)), ("deed d\nn", (2, 1)), ("deed d\nask", (2, 1)), ("deed d\nt", (2, 1))])

    def test_wrong(self):
        bad = [("kinds", thing, BadKinds, thing) for thing in NO_KINDS]
        self.refuses(plan_text, {"plan": PLAN}, no_plans(BadPlan))
        for call in (read_plan, plan_text_fault):
            self.refuses(call, {"kinds": SHOPS, "text": TEXT}, bad)
            self.raised(BadKinds, None, call, None, None)
        self.no_strings(BadPlanText, read_plan, plan_text_fault, SHOPS)

    def test_read_back(self):
        chance = chance_of(242)
        for _ in range(120):
            kinds = chance.choice([*SOME_KINDS, *BIG_KINDS, NEAR, SHOPS, WIDE_KINDS])
            plan = random_plan(chance, kinds, chance.randint(0, 4), asks=3, turns=3, pours=3, moves=3, news=3, most=4)
            text = plan_text(plan)
            self.assertIsNone(plan_text_fault(kinds, text))
            self.assertEqual(read_plan(kinds, text), plan)
            self.assertEqual(plan_text(read_plan(kinds, text)), text)
            self.assertEqual(Plan(kinds, plain_deeds(text)), plan)

    def test_bent(self):
        chance = chance_of(243)
        seen = {True: 0, False: 0}
        for kinds in (NEAR, SHOPS):
            ends = plan_ends(kinds, 4)
            is_right = is_right_for(kinds)
            for _ in range(350):
                plan = random_plan(chance, kinds, chance.randint(1, 2), asks=2, turns=2, pours=2, moves=2, news=2, most=3)
                text = bent(chance, plan_text(plan), ["0", "1", "top", "all", "w0", "n0", "a", "b", "m", "m>m", "order", "-"])
                found = plan_text_fault(kinds, text)
                self.assertEqual(found, plain_fault(text, is_right, ends), text)
                seen[found is None] += 1
                if found is None:
                    self.assertEqual(read_plan(kinds, text), Plan(kinds, plain_deeds(text)))
        self.assertGreater(min(seen.values()), 50)

    def test_each_beginning_goes_on(self):
        """Of a right text each beginning is wrong just behind its last sign, or right."""
        chance = chance_of(244)
        for plan in (WIDE_PLAN, PLAN, random_plan(chance, BIG_KINDS[0], 3, asks=2, turns=2, pours=1, moves=2, news=2, most=3)):
            text = plan_text(plan)
            for at in range(len(text)):
                lines = text[:at].split("\n")
                wanted = None if lines[-1] == "" else (len(lines), len(lines[-1]) + 1)
                self.assertEqual(plan_text_fault(plan.kinds(), text[:at]), wanted)

    def test_limits(self):
        """Five things in each list of a deed, three thousand signs."""
        chance = chance_of(245)
        for kinds in BIG_KINDS:
            plans = [random_plan(chance, kinds, 8, asks=5, turns=5, pours=5, moves=5, news=5, most=5) for _ in range(4)]
            plan = Plan(kinds, [(f"{deed[0]}{at}", *deed[1:]) for at, one in enumerate(plans) for deed in one.all_deeds()])
            text = plan_text(plan)
            self.assertGreater(len(text), 3000)
            self.assertEqual(self.soon(read_plan, kinds, text), plan)
            self.assertEqual(self.soon(plan_text_fault, kinds, text + "x"), (text.count("\n") + 1, 1))
            self.assertEqual(self.soon(plan_text, plan), text)
        text = "deed d\n" + "who shop top open>open\n" * 150
        self.assertEqual(self.soon(plan_text_fault, SHOPS, text + "ask 150"), (152, 7))
        self.assertEqual(self.soon(plan_text_fault, SHOPS, "".join([f"deed d{index}\n" for index in range(400)])), None)
