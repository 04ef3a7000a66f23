"""[4.3], [4.4], [4.7]: paths, and rows of stands."""

from anywithin.errors import BadFlat, BadGoal, BadKinds, BadMark, BadPath, BadRecord, BadStand
from anywithin.kinds import Kinds
from anywithin.paths import (
    flat_rows, moved_to, paths_of, put_in, record_at, set_mark, stand_of_flat, without_path,
)
from tests.helpers import (
    GREAT, KINDS, WIDE, Case, Sour, as_lists, as_tuples, at, chance_of, cut, odd_things, paths, random_stand, shuffled,
    size, told,
)

STAND = [("shop", "open", [("order", "paid", []), ("order", "new", [("line", "ok", [])])])]
TWO = [("shop", "shut", []), ("shop", "open", [("order", "paid", [("line", "ok", [])]), ("order", "new", [])])]
N, P, LINE = ("order", "new", ()), ("order", "paid", ()), ("line", "ok", ())
BAD_PATHS = (
    None, 5, "", "0", (), [], (1,), (0, 2), (0, 1, 0), (0, 0, 0, 0), (-1,), (True,), (False,), (0, True), (0.0,),
    ((0,),), ("0",), {0: 0}, (GREAT,), [None], [Sour()], Sour(), range(1),
)


class Paths(Case):

    def test_example(self):
        self.assertEqual(paths_of(KINDS, STAND), [(0,), (0, 0), (0, 0, 0), (0, 1)])
        self.assertEqual(flat_rows(KINDS, STAND), [("shop", "open", None), ("order", "new", 0), ("line", "ok", 1),
                                                   ("order", "paid", 0)])
        self.assertEqual(without_path(KINDS, STAND, (0, 0)), (("shop", "open", (("order", "paid", ()),)),))

    def test_paths_go_by_the_told_form(self):
        chance = chance_of(2)
        for number in range(100):
            stand = random_stand(chance, WIDE, number % 30)
            wanted = paths(told(stand))
            self.assertEqual(paths_of(WIDE, stand), wanted)
            self.assertEqual(wanted, sorted(wanted))
            self.assertEqual(paths_of(kinds=WIDE, stand=as_tuples(shuffled(chance, stand))), wanted)
            for path in wanted:
                self.assertEqual(record_at(WIDE, stand, path), at(told(stand), path))
                self.assertEqual(without_path(WIDE, stand, list(path)), cut(told(stand), path))
        self.new_each_time(paths_of, KINDS, STAND)
        self.assertEqual(paths_of(KINDS, []), [])

    def test_record_at(self):
        self.assertEqual(record_at(KINDS, STAND, (0, 0)), ("order", "new", (LINE,)))
        self.assertEqual(record_at(kinds=KINDS, stand=as_lists(STAND), path=[0, 1]), P)
        self.assertEqual(record_at(KINDS, TWO, (0,)), ("shop", "open", (N, ("order", "paid", (LINE,)))))

    def test_without_path(self):
        self.assertEqual(without_path(KINDS, STAND, (0,)), ())
        self.assertEqual(without_path(kinds=KINDS, stand=TWO, path=(0, 1)),
                         (("shop", "open", (N,)), ("shop", "shut", ())))
        # What is left may stand in another order.
        stand = [("shop", "open", [P]), ("shop", "open", [N, N])]
        self.assertEqual(without_path(KINDS, stand, (1, 0)), (("shop", "open", ()), ("shop", "open", (N, N))))

    def test_set_mark(self):
        self.assertEqual(set_mark(KINDS, STAND, (0, 0), "paid"), (("shop", "open", (P, ("order", "paid", (LINE,)))),))
        self.assertEqual(set_mark(KINDS, TWO, [0], "shut"), (
            ("shop", "shut", ()), ("shop", "shut", (N, ("order", "paid", (LINE,))))))
        self.assertEqual(set_mark(kinds=KINDS, stand=STAND, path=(0,), mark="open"), told(STAND))
        for mark in ("new", "", None, ["open"], True, Sour(), "Open"):
            self.raised(BadMark, mark, set_mark, KINDS, STAND, (0,), mark)
            if not isinstance(mark, str):
                self.raised(BadMark, mark, set_mark, KINDS, STAND, (0, 1), mark)

    def test_put_in(self):
        self.assertEqual(put_in(KINDS, [], (), ["shop", "open", [["order", "new", []]]]), (("shop", "open", (N,)),))
        self.assertEqual(put_in(KINDS, STAND, [], ("shop", "open", [])), (("shop", "open", ()), *told(STAND)))
        self.assertEqual(put_in(KINDS, TWO, (1,), N), (*told(TWO)[:1], ("shop", "shut", (N,))))
        self.assertEqual(put_in(kinds=KINDS, stand=TWO, path=[0, 0], record=["line", "ok", []]), (
            ("shop", "open", (("order", "new", (LINE,)), ("order", "paid", (LINE,)))), ("shop", "shut", ())))
        for path, record in (((), N), ((), None), ((), "abc"), ((0,), LINE), ((0,), ("shop", "open", [])),
                             ((0, 0), N), ((0, 0, 0), LINE), ((), ("shop", "open", [LINE])), ((0,), ("order", "ok",
                             [])),
                             ((0,), ("order", "new", None)), ((0,), [])):
            self.raised(BadRecord, record, put_in, KINDS, STAND, path, record)

    def test_moved_to(self):
        self.assertEqual(moved_to(KINDS, TWO, (0, 1), (1,)), (
            ("shop", "open", (N,)), ("shop", "shut", (("order", "paid", (LINE,)),))))
        self.assertEqual(moved_to(KINDS, TWO, [0, 1, 0], [0, 0]), (
            ("shop", "open", (("order", "new", (LINE,)), P)), ("shop", "shut", ())))
        self.assertEqual(moved_to(kinds=KINDS, stand=TWO, path=(0, 0), goal=(0,)), told(TWO))
        for path, goal in (((0,), (1,)), ((0,), ()), ((0,), (0,)), ((0, 0), ()), ((0, 0), (0, 1)), ((0, 1, 0), (0,)),
                           ((0, 1, 0), (0, 1, 0)), ((0, 0), (2,)), ((0, 0), None), ((0, 0), (True,)), ((0, 0), [[0]])):
            self.raised(BadGoal, goal, moved_to, KINDS, TWO, path, goal)
        # A goal has to be of the very kind: a can is as high as a bin.
        stand = [("bin", "a", [("cup", "x", [])]), ("can", "a", [])]
        self.raised(BadGoal, (1,), moved_to, WIDE, stand, (0, 0), (1,))

    def test_moved_to_in_many_shapes(self):
        chance = chance_of(3)
        for _ in range(60):
            stand = told(random_stand(chance, WIDE, 10))
            for path in paths(stand):
                for goal in paths(stand):
                    record, holder = at(stand, path), at(stand, goal)
                    if WIDE.above(record[0]) != holder[0]:
                        self.raised(BadGoal, goal, moved_to, WIDE, stand, path, goal)
                        continue
                    # The move is told by marking the goal's place with more parts, then cutting.
                    rows = flat_rows(WIDE, stand)
                    all_paths = paths(stand)
                    rows[all_paths.index(path)] = (*record[:2], all_paths.index(goal))
                    self.assertEqual(moved_to(WIDE, stand, path, goal), heap_of_rows(rows))

    def test_bad_paths(self):
        for path in BAD_PATHS:
            for call, rest in ((record_at, ()), (without_path, ()), (set_mark, (None,)), (moved_to, (None,))):
                self.raised(BadPath, path, call, KINDS, STAND, path, *rest)
            if not (isinstance(path, (list, tuple)) and len(path) == 0):
                self.raised(BadPath, path, put_in, KINDS, STAND, path, None)
        self.assertEqual(size(put_in(KINDS, STAND, (), ("shop", "shut", []))), 5)

    def test_errors_in_order(self):
        for call, rest in ((paths_of, 0), (flat_rows, 0), (record_at, 1), (without_path, 1), (set_mark, 2), (put_in, 2),
                           (moved_to, 2)):
            self.raised(BadKinds, None, call, None, *[None] * (rest + 1))
            self.raised(BadStand, 0, call, KINDS, None, *[None] * rest)
            self.raised(BadStand, 1, call, KINDS, [*STAND, 5], *[None] * rest)

    def test_what_is_passed_stays(self):
        stand = as_lists(TWO)
        for call, rest in ((record_at, ([0],)), (without_path, ([0],)), (set_mark, ([0], "shut")), (flat_rows, ()),
                           (put_in, ([0], ["order", "new", []])), (moved_to, ([0, 0], [1]))):
            self.new_each_time(call, KINDS, stand, *rest)

    def test_great_stands(self):
        chance = chance_of(4)
        for _ in range(5):
            stand = random_stand(chance, WIDE, 30)
            for path in paths(told(stand)):
                self.soon(without_path, WIDE, stand, path)


def heap_of_rows(rows):
    """The told form of rows in any order, made plainly."""

    def grown(holder):
        return tuple(sorted((kind, mark, grown(index)) for index, (kind, mark, up) in enumerate(rows) if up == holder))

    return grown(None)


class Rows(Case):

    def test_back_and_forth(self):
        chance = chance_of(5)
        for number in range(150):
            stand = random_stand(chance, WIDE, number % 31)
            rows = flat_rows(WIDE, shuffled(chance, stand))
            self.assertEqual(len(rows), size(stand))
            self.assertEqual([row[:2] for row in rows], [at(told(stand), path)[:2] for path in paths(told(stand))])
            for index, (kind, _, holder) in enumerate(rows):
                self.assertTrue(holder is None if WIDE.above(kind) == "" else 0 <= holder < index)
            self.assertEqual(stand_of_flat(WIDE, rows), told(stand))
            self.assertEqual(stand_of_flat(kinds=WIDE, flat=as_tuples(rows)), told(stand))
            self.assertEqual(stand_of_flat(WIDE, as_lists(rows)), told(stand))
        self.new_each_time(flat_rows, KINDS, STAND)

    def test_rows_in_other_orders(self):
        flat = [("shop", "shut", None), ("order", "paid", 0), ("shop", "open", None), ("order", "new", 0),
                ("line", "ok", 1), ["order", "new", 2]]
        self.assertEqual(stand_of_flat(KINDS, flat), (
            ("shop", "open", (N,)), ("shop", "shut", (N, ("order", "paid", (LINE,))))))
        self.assertEqual(len(flat_rows(KINDS, stand_of_flat(KINDS, flat))), len(flat))
        self.assertEqual(stand_of_flat(KINDS, []), ())
        self.new_each_time(stand_of_flat, KINDS, flat)

    def test_any_flat_has_as_many_rows(self):
        chance = chance_of(6)
        for _ in range(100):
            flat = []
            for _ in range(chance.randrange(12)):
                kind = chance.choice(WIDE.all_kinds())
                fitting = [index for index, row in enumerate(flat) if row[0] == WIDE.above(kind)]
                holder = None if WIDE.above(kind) == "" else chance.choice(fitting or [-1])
                if holder != -1:
                    flat.append((kind, chance.choice(WIDE.marks(kind)), holder))
            self.assertEqual(len(flat_rows(WIDE, stand_of_flat(WIDE, flat))), len(flat))
            self.assertEqual(stand_of_flat(WIDE, flat), heap_of_rows(flat))

    def test_bad_flat(self):
        top = ("shop", "open", None)
        for flat, index in (
            (None, 0), ("", 0), ({}, 0), (Sour(), 0), ([top, None], 1), ([top, "abc"], 1), ([("shop", "open")], 0),
            ([("shop", "open", 0)], 0), ([top, ("shop", "open", 0)], 1), ([("order", "new", None)], 0),
            ([("order", "new", 1), top], 0), ([top, ("order", "new", 1)], 1), ([top, ("order", "new", False)], 1),
            ([top, ("order", "new", 0.0)], 1), ([top, ("order", "new", -1)], 1), ([top, ("line", "ok", 0)], 1),
            ([top, ("order", "ok", 0)], 1), ([top, ("order", ["new"], 0)], 1), ([top, (["order"], "new", 0)], 1),
            ([top, ("order", "new", GREAT)], 1), ([("shop", "open", [])], 0), ([top, ("order", "new", 0, 0)], 1),
            ([top, top, ("order", "new", 2)], 2), ([("shop", "new", None), 5], 0), ([("", "", None)], 0),
        ):
            self.raised(BadFlat, index, stand_of_flat, KINDS, flat)
        self.raised(BadKinds, None, stand_of_flat, None, None)
        for thing in odd_things():
            if isinstance(thing, (list, tuple)) and len(thing) == 0:
                continue
            self.raised(BadFlat, 0, stand_of_flat, KINDS, thing)

    def test_no_kinds(self):
        self.assertEqual(stand_of_flat(Kinds([]), ()), ())
        self.raised(BadFlat, 0, stand_of_flat, Kinds([]), [("shop", "open", None)])
