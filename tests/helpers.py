"""What the tests share: kinds, odd things, other forms, plain trials of all ways."""

import copy
import itertools
import random
import time
import unittest

from anywithin.kinds import Kinds

# The kinds of [3.5], line without lasting.
ROWS = [
    ("shop", "", ["open", "shut"], True),
    ("order", "shop", ["paid", "new"], False),
    ("line", "order", ["ok"], False),
]
KINDS = Kinds(ROWS)

# The kinds of [7.6].
SHOPS = Kinds([("shop", "", ["open", "shut"], False), ("order", "shop", ["new", "sent"], False)])

# Three levels, two kinds beside one another at the second and at the first one.
WIDE = Kinds([
    ("bin", "", ["a", "b"], False),
    ("can", "", ["a", "c"], True),
    ("cup", "bin", ["x", "y"], False),
    ("jar", "bin", ["x"], False),
    ("pea", "cup", ["u", "v"], False),
])

GREAT = 10 ** 5000


class Sour:
    """An object that can be asked nothing."""

    def __eq__(self, other):
        raise RuntimeError("asked")

    def __hash__(self):
        return 7

    def __bool__(self):
        raise RuntimeError("asked")

    def __len__(self):
        raise RuntimeError("asked")

    def __iter__(self):
        raise RuntimeError("asked")

    def __repr__(self):
        raise RuntimeError("asked")


def deep(many):
    """A list that is nested so deeply."""
    thing = []
    for _ in range(many):
        thing = [thing]
    return thing


def odd_things():
    """Things of every kind."""
    ring = []
    ring.append(ring)
    own = ["shop", "open", []]
    own[2].append(own)
    return [
        None, True, False, 0, 1, -1, 2.5, 1.0, float("nan"), GREAT, -GREAT, 1j,
        "", "a", "shop", "open", "do", b"", b"shop", [], (), {}, set(), frozenset(), {1, 2},
        [[]], [()], [{}], [None], [True], [0], [""], ["shop"], ["shop", "open"], ["shop", "open", []], [b"shop"],
        ("shop", "open", ()), [["shop", "open", []]], [["shop", "open", {}]], [["shop", "open", ""]],
        [["shop", "open", [[]]]], [[["shop"], "open", []]], [["shop", ["open"], []]], [["shop", {}, []]],
        [[{"shop": 1}, "open", []]], [[None, None, None]], [["order", "new", []]], [["shop", "new", []]],
        {"a": []}, {(): ()}, {(0,): (0,)}, {0: 0}, {None: None}, {Sour(): Sour()}, {"shop": Sour()},
        [Sour()], [[Sour(), Sour(), Sour()]], ["shop", Sour(), []], [["shop", "open", Sour()]],
        Sour(), object(), Sour, len, range(3), iter([]), deep(50000), [deep(50000)], [["shop", "open", deep(50000)]],
        ring, own, [own], KINDS, ValueError("x"), NotImplemented, Ellipsis, "x" * 100000, list(range(1000)),
        ([], [], {}), [[], [], {}], ([0], [], {}), ([0], [], {(0, 0): 1}), ([[]], [[]], {}), ([True], [], {}),
        ([0], [], {Sour(): 1}), ("", "", {}), ([0], [], []), [[], []], ([], []), ([], [None]), ([], [[]]),
        ([], [["do", 1, 2]]), ([], [("delete", True)]), ([], [("delete", GREAT)]), ([], [("do", "put", [Sour()])]),
    ]


def written(thing):
    """How a thing is written, nothing for one that can't be."""
    try:
        return repr(thing)
    except (RuntimeError, ValueError):
        return ""


def as_lists(thing):
    """The same thing with a list for each tuple and list; dicts keep their keys."""
    if isinstance(thing, (list, tuple)):
        return [as_lists(part) for part in thing]
    if isinstance(thing, dict):
        return {key: as_lists(part) for key, part in thing.items()}
    return thing


def as_tuples(thing):
    """The same thing with a tuple for each tuple and list; dicts keep their keys."""
    if isinstance(thing, (list, tuple)):
        return tuple(as_tuples(part) for part in thing)
    if isinstance(thing, dict):
        return {key: as_tuples(part) for key, part in thing.items()}
    return thing


def shuffled(chance, heap):
    """A stand, or a beginning, in another order, in lists."""
    found = [[*row[:2], shuffled(chance, row[2]), *row[3:]] for row in heap]
    chance.shuffle(found)
    return found


def told(heap):
    """A stand in its told form, made plainly."""
    return tuple(sorted((kind, mark, told(parts)) for kind, mark, parts in heap))


def told_seeds(seeds):
    """A beginning in its told form, made plainly."""
    return tuple(sorted((kind, mark, told_seeds(inner), many) for kind, mark, inner, many in seeds))


def size(heap):
    return sum(1 + size(row[2]) for row in heap)


def paths(heap, way=()):
    """All paths of a told stand, or of a told beginning."""
    found = []
    for index, row in enumerate(heap):
        found.append((*way, index))
        found.extend(paths(row[2], (*way, index)))
    return found


def at(heap, path):
    """What is at a path of a told stand, or of a told beginning."""
    row = None
    for index in path:
        row = heap[index]
        heap = row[2]
    return row


def cut(heap, path):
    """A told stand without the record at path."""
    index = path[0]
    if len(path) == 1:
        return told([*heap[:index], *heap[index + 1:]])
    row = heap[index]
    return told([*heap[:index], (row[0], row[1], cut(row[2], path[1:])), *heap[index + 1:]])


def random_stand(chance, kinds, many, marks=5):
    """A stand of at most so many records, in lists."""
    tops = []
    there = []
    for _ in range(many):
        holder = chance.choice([None] * (1 + len(there) // 3) + there)
        fitting = kinds.parts("" if holder is None else holder[0])
        if not fitting:
            continue
        kind = chance.choice(fitting)
        row = [kind, chance.choice(kinds.marks(kind)[:marks]), []]
        (tops if holder is None else holder[2]).append(row)
        there.append(row)
    return tops


def random_beginning(chance, kinds, many):
    """A beginning of at most so many seeds, in lists."""

    def grown(rows):
        return [[kind, mark, grown(parts), chance.random() < 0.4] for kind, mark, parts in rows]

    return grown(random_stand(chance, kinds, many))


def plain_lies(less, more):
    """Whether less lies in more, by a trial of all ways."""
    if len(less) > len(more):
        return False
    for ways in itertools.permutations(more, len(less)):
        if all(one[:2] == other[:2] and plain_lies(one[2], other[2]) for one, other in zip(less, ways)):
            return True
    return False


def plain_begins(seeds, records):
    """Whether records lie in seeds, by a trial of all ways."""
    fitting = []
    for record in records:
        fitting.append([
            index for index, seed in enumerate(seeds)
            if tuple(record[:2]) == tuple(seed[:2]) and plain_begins(seed[2], record[2])
        ])
    for way in itertools.product(*fitting):
        if all(seeds[index][3] or way.count(index) == 1 for index in way):
            return True
    return False


def all_heaps(kinds, most, above=""):
    """The told forms of all stands of at most so many records, by size, made plainly."""
    found = {()}
    last = {()}
    for _ in range(most):
        more = set()
        for heap in last:
            for kind in kinds.parts(above):
                for mark in kinds.marks(kind):
                    more.add(told([*heap, (kind, mark, ())]))
            for path in paths(heap):
                row = at(heap, path)
                for kind in kinds.parts(row[0]):
                    for mark in kinds.marks(kind):
                        more.add(_with_part(heap, path, (kind, mark, ())))
        found |= more
        last = more
    return sorted(found, key=lambda heap: (size(heap), heap))


def _with_part(heap, path, part):
    index = path[0]
    row = heap[index]
    parts = (*row[2], part) if len(path) == 1 else _with_part(row[2], path[1:], part)
    return told([*heap[:index], (row[0], row[1], parts), *heap[index + 1:]])


def mutables(thing):
    """All lists and dicts within an answer, each as often as it stands there."""
    found = []
    if isinstance(thing, (list, dict)):
        found.append(thing)
    if isinstance(thing, (list, tuple)):
        for part in thing:
            found.extend(mutables(part))
    if isinstance(thing, dict):
        for part in thing.values():
            found.extend(mutables(part))
    return found


# What is refused as a plan, a beginning, a stand; the last of three ways with the index that the error keeps.
NO_PLANS = [None, 5, "plan", [], KINDS, Sour()]
NO_BEGINNINGS = [(None, 0), ("x", 0), ([("nix", "a", [], True)], 0), ([None, 5], 0), (5, 0), (Sour(), 0)]
NO_STANDS = [(None, 0), ("", 0), ({}, 0), ([5], 0), ([("nix", "a", [])], 0), (5, 0), (Sour(), 0), ([Sour()], 0)]


def no_plans(error, name="plan"):
    return [(name, thing, error, thing) for thing in NO_PLANS]


def no_beginnings(error, name="beginning"):
    return [(name, thing, error, index) for thing, index in NO_BEGINNINGS]


def no_stands(error, name, good=()):
    """Wrong stands, some behind the records of a good one."""
    found = [(name, thing, error, index) for thing, index in NO_STANDS]
    return [*found, (name, [*good, None], error, len(good)), (name, (*good, *good, ("x", "y")), error, 2 * len(good))]


class Case(unittest.TestCase):
    """What most tests need."""

    def raised(self, error, keeps, call, *args, **named):
        """The call raises just this error, which keeps just this under its one name."""
        try:
            call(*args, **named)
        except error as caught:
            self.assertIs(type(caught), error)
            self.assertEqual(len(vars(caught)), 1)
            kept = list(vars(caught).values())[0]
            if isinstance(keeps, int) and not isinstance(keeps, bool):
                self.assertIs(type(kept), int)
                self.assertTrue(kept == keeps)
            else:
                self.assertIs(kept, keeps)
            return
        self.fail(f"{error.__name__} was not raised")

    def new_each_time(self, call, *args):
        """What the call tells is made anew each time, and each part of it once; what is passed stays."""
        before = copy.deepcopy(args)
        first = call(*args)
        self.assertTrue(args == before)
        wanted = copy.deepcopy(first)
        parts = mutables(first)
        self.assertEqual(len({id(part) for part in parts}), len(parts))
        passed = {id(part) for part in mutables(list(args))}
        self.assertFalse(passed & {id(part) for part in parts})
        for part in parts:
            part.clear()
        self.assertTrue(args == before)
        self.assertEqual(call(*args), wanted)

    def refuses(self, call, good, bad):
        """Each wrong argument is refused, of two the first one by the order of good.

        good is a dict of arguments by name; bad a list of (name, wrong thing, error, what the error keeps).
        """
        call(**good)
        call(*good.values())
        order = list(good)
        for name, thing, error, keeps in bad:
            self.raised(error, keeps, call, **{**good, name: thing})
            self.raised(error, keeps, call, *{**good, name: thing}.values())
            for later, other, _, _ in bad:
                if order.index(name) < order.index(later):
                    self.raised(error, keeps, call, **{**good, later: other, name: thing})

    def same_in_all_forms(self, call, *args):
        """The call tells the same of lists, of tuples, again, and by stands in any order where these are named."""
        wanted = call(*args)
        self.assertEqual(call(*[as_lists(arg) for arg in args]), wanted)
        self.assertEqual(call(*[as_tuples(arg) for arg in args]), wanted)
        self.assertEqual(call(*args), wanted)
        return wanted

    def keys_rise(self, thing):
        """The keys of a dict stand there ascending."""
        self.assertEqual(list(thing), sorted(thing))

    def soon(self, call, *args):
        """The call answers within seconds."""
        begun = time.monotonic()
        answer = call(*args)
        self.assertLess(time.monotonic() - begun, 10)
        return answer


def chance_of(number):
    """A source of chance that is the same each time."""
    return random.Random(number)
