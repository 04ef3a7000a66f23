"""Plans at random, and plain trials of all ways, that the tests of stages 3 and 4 share."""

import itertools

from anywithin.grounds import Ground
from anywithin.kinds import Kinds
from anywithin.plans import Plan
from anywithin.rounds import round_of
from tests.helpers import cut, paths, plain_lies, size

# Two levels, and three; some of them last.
TWO = Kinds([("box", "", ["a", "b"], False), ("egg", "box", ["x", "y"], False)])
BESIDE = Kinds([("box", "", ["a"], True), ("egg", "box", ["x", "y"], False), ("fig", "box", ["x"], True)])
THREE = Kinds([("box", "", ["a", "b"], False), ("cup", "box", ["c"], False), ("egg", "cup", ["x", "y"], False)])
TOPS = Kinds([("box", "", ["a", "b"], False), ("egg", "box", ["x"], False), ("van", "", ["v"], True)])
SOME_KINDS = [TWO, BESIDE, THREE, TOPS]

# As great as [2.3] lets them be.
BIG_KINDS = [
    Kinds([("ka", "", ["a", "b", "c"], False), ("kb", "ka", ["a", "b", "c"], False), ("kc", "kb", ["a", "b", "c"], False),
           ("kd", "ka", ["a", "b", "c"], False), ("ke", "", ["a", "b", "c"], True)]),
    Kinds([("ka", "", ["a", "b", "c"], False), ("kb", "ka", ["a", "b", "c"], False), ("kc", "kb", ["a", "b", "c"], False),
           ("kd", "kb", ["a", "b", "c"], False), ("ke", "ka", ["a", "b", "c"], False)]),
]


def random_turn(chance, kinds, kind, goes=0.2):
    """A turn of kind by which at most two marks lead to one."""
    marks = kinds.marks(kind)
    while True:
        turn = {}
        for mark in chance.sample(marks, chance.randint(1, len(marks))):
            turn[mark] = None if chance.random() < goes else chance.choice(marks)
        goals = list(turn.values())
        if all(goals.count(goal) <= 2 for goal in goals):
            return turn


def random_who(chance, kinds, most):
    who = []
    for _ in range(chance.randint(0 if chance.random() < 0.2 else 1, most)):
        fitting = [(kind, None) for kind in kinds.parts("")]
        fitting += [(kind, index) for index, row in enumerate(who) for kind in kinds.parts(row[0])] * 2
        kind, lies = chance.choice(fitting)
        who.append((kind, lies, random_turn(chance, kinds, kind)))
    return who


def random_place(chance, kinds, who, lasting):
    """A place and a kind for an ask or a turn, None if there is none."""
    fitting = [(None, kind) for kind in kinds.all_kinds()]
    fitting += [(index, kind) for index, row in enumerate(who) for kind in kinds.within(row[0])] * 3
    fitting = [pair for pair in fitting if lasting or not kinds.lasts(pair[1])]
    return chance.choice(fitting) if fitting else None


def spots(kinds, who, made, kind):
    found = [("who", index) for index, row in enumerate(who) if row[0] == kind]
    return found + [("new", index) for index, row in enumerate(made) if row[0] == kind]


def random_news(chance, kinds, who, most):
    news = []
    for _ in range(chance.randint(0, most)):
        kind = chance.choice(kinds.all_kinds())
        fitting = spots(kinds, who, news, kinds.above(kind)) if kinds.above(kind) else [None]
        if fitting:
            news.append((kind, chance.choice(kinds.marks(kind)), chance.choice(fitting)))
    return news


def random_deed(chance, kinds, name, asks=1, turns=1, pours=1, moves=1, news=1, most=2):
    who = random_who(chance, kinds, most)
    made = random_news(chance, kinds, who, news)
    asked, turned, poured, moved = [], [], [], []
    for _ in range(chance.randint(0, asks)):
        pair = random_place(chance, kinds, who, False)
        if pair is not None:
            marks = kinds.marks(pair[1])
            asked.append((*pair, chance.sample(marks, chance.randint(0, len(marks) - 1))))
    for _ in range(chance.randint(0, turns)):
        pair = random_place(chance, kinds, who, True)
        turned.append((*pair, random_turn(chance, kinds, pair[1])))
    for _ in range(chance.randint(0, pours)):
        fitting = [(index, kind, spot) for index, row in enumerate(who) for kind in kinds.parts(row[0])
                   for spot in spots(kinds, who, made, row[0])
                   if spot != ("who", index) and (index, kind) not in [row[:2] for row in poured]]
        if fitting:
            poured.append(chance.choice(fitting))
    for _ in range(chance.randint(0, moves)):
        fitting = [(index, spot) for index, row in enumerate(who) if row[1] is not None
                   for spot in spots(kinds, who, made, kinds.above(row[0]))
                   if index not in [row[0] for row in moved]]
        if fitting:
            moved.append(chance.choice(fitting))
    return (name, who, asked, turned, poured, moved, made)


def random_plan(chance, kinds, deeds, **most):
    return Plan(kinds, [random_deed(chance, kinds, name, **most) for name in "abcdefgh"[:deeds]])


def plain_led(plan, name, stand):
    """Pairs of numbers and the stand behind, for all numbers with which the deed can be done, ascending."""
    found = []
    first = Ground(plan, stand)
    for numbers in itertools.permutations(first.numbers(), len(plan.deed(name)[1])):
        ground = first.copy()
        try:
            ground.do(name, list(numbers))
        except ValueError:
            continue
        found.append((list(numbers), ground.stand()))
    return found


def plain_least(heaps):
    """The least of some told stands, ascending."""
    unlike = sorted(set(heaps))
    return [heap for heap in unlike if not any(plain_lies(less, heap) for less in unlike if less != heap)]


def plain_fewer(kinds, heap):
    """The told stands that a single deletion leaves."""
    found = []
    for path in paths(heap):
        row = heap
        for index in path:
            row = row[index] if row is heap else row[2][index]
        if not kinds.lasts(row[0]):
            found.append(cut(heap, path))
    return found


def plain_above(heaps, heap):
    return any(plain_lies(less, heap) for less in heaps)


def seeds_for(heap, many=False):
    """The beginning in which just what lies in a told stand lies, or any number of each."""
    return [(kind, mark, seeds_for(parts, many), many) for kind, mark, parts in heap]


def random_play(chance, plan, first, steps, deletes=0.2):
    """A play of at most so many steps from first, in lists."""
    ground = Ground(plan, first)
    found = []
    for _ in range(steps):
        step = random_step(chance, plan, ground, deletes)
        if step is not None:
            found.append(step)
    return (first, found)


def random_step(chance, plan, ground, deletes):
    """A step that was done on the ground, None if none was found."""
    here = ground.numbers()
    if here and chance.random() < deletes:
        number = chance.choice(here)
        if not plan.kinds().lasts(ground.record(number)[0]):
            ground.delete(number)
            return ("delete", number)
    for _ in range(10):
        deed = chance.choice(plan.all_deeds())
        numbers = random_numbers(chance, deed, ground)
        try:
            ground.do(deed[0], numbers)
        except ValueError:
            continue
        return ("do", deed[0], numbers)
    return None


def random_numbers(chance, deed, ground):
    """Numbers that often fit, None in the place of those that don't."""
    numbers = []
    for kind, lies, turn in deed[1]:
        above = None if lies is None else numbers[lies]
        fitting = [number for number in ground.numbers() if number not in numbers
                   and ground.record(number)[0] == kind and ground.record(number)[1] in turn
                   and ground.record(number)[2] == above]
        numbers.append(chance.choice(fitting) if fitting else None)
    return numbers


def leading_within(plan, asked, many=12, records=6):
    """The rounds of asked, None if they are not within the limits of [2.3]."""
    found = [round_of(plan, asked, 0)]
    while len(found) < 8:
        if len(found[-1]) > many or any(size(heap) > records for heap in found[-1]):
            return None
        then = round_of(plan, asked, len(found))
        if then == found[-1]:
            return found
        found.append(then)
    return None


def plain_depths(plan, stand, records):
    """By how few deeds, with any deletions, each stand of at most so many records comes from stand, going forward."""
    depths = {}
    there, depth = [stand], 0
    while there:
        fresh = []
        while there:
            heap = there.pop()
            if heap not in depths:
                depths[heap] = depth
                fresh.append(heap)
                there.extend(plain_fewer(plan.kinds(), heap))
        ends = {end for heap in fresh for one in plan.all_deeds() for _, end in plain_led(plan, one[0], heap)}
        there = [end for end in ends if size(end) <= records and end not in depths]
        depth += 1
    return depths
