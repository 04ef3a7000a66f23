"""Kinds: what may lie in what, and with which marks."""

from anywithin.errors import BadKind, BadKinds, BadNames, BadRows
from anywithin.words import is_list, is_list_of, is_name, is_one_of


class Kinds:
    """Kinds of records: each with its above, its marks, and whether it lasts."""

    def __init__(self, rows):
        index = _rows_fault(rows)
        if index is not None:
            raise BadRows(index)
        told = sorted([(kind, above, tuple(sorted(marks)), lasts) for kind, above, marks, lasts in rows])
        self._rows = {row[0]: row for row in told}
        self._parts = {above: [row[0] for row in told if row[1] == above] for above in ["", *self._rows]}

    def __eq__(self, other):
        return isinstance(other, Kinds) and self._rows == other._rows

    def all_rows(self):
        """Tell all rows, kinds ascending."""
        return list(self._rows.values())

    def all_kinds(self):
        """Tell all kinds, ascending."""
        return list(self._rows)

    def above(self, kind):
        """Tell in which kind this one lies, "" for a top kind."""
        return self._row_of(kind)[1]

    def marks(self, kind):
        """Tell the marks of a kind, ascending."""
        return list(self._row_of(kind)[2])

    def lasts(self, kind):
        """Tell whether records of this kind are never deleted."""
        return self._row_of(kind)[3]

    def level(self, kind):
        """Tell how deep a kind lies, 1 for a top kind."""
        return len(self._holders(self._row_of(kind)[0]))

    def parts(self, kind):
        """Tell which kinds lie directly in this one, for "" the top kinds."""
        if not is_one_of(kind, self._parts):
            raise BadKind(kind)
        return list(self._parts[kind])

    def within(self, kind):
        """Tell which kinds lie in this one at whatever level, for "" all kinds."""
        if not is_one_of(kind, self._parts):
            raise BadKind(kind)
        return [part for part in self._rows if kind in self._holders(part)]

    def _row_of(self, kind):
        if not is_one_of(kind, self._rows):
            raise BadKind(kind)
        return self._rows[kind]

    def _holders(self, kind):
        """Tell in what a kind lies, from its above to "" at last."""
        found = []
        while kind != "":
            kind = self._rows[kind][1]
            found.append(kind)
        return found


def need_kinds(kinds):
    """Refuse what is no Kinds."""
    if not isinstance(kinds, Kinds):
        raise BadKinds(kinds)


def is_row(thing):
    """Tell whether any object is a row of kinds."""
    if not is_list_of(thing, 4):
        return False
    kind, above, marks, lasts = thing
    if not is_name(kind) or not (is_name(above) or is_one_of(above, [""])):
        return False
    return isinstance(lasts, bool) and is_list(marks) and len(marks) > 0 and _are_unlike_names(marks)


def kinds_called(kinds, names):
    """Tell the Kinds whose kinds and marks are called as names say."""
    need_kinds(kinds)
    need_names(kinds, names)
    return Kinds([
        (names[kind], "" if above == "" else names[above], [names[mark] for mark in marks], lasts)
        for kind, above, marks, lasts in kinds.all_rows()
    ])


def need_names(kinds, names):
    """Refuse what does not lead these kinds and marks, and nothing else, to fit names."""
    if not _are_fit_names(kinds, names):
        raise BadNames(names)


def _are_fit_names(kinds, names):
    if not isinstance(names, dict):
        return False
    marks = [mark for kind in kinds.all_kinds() for mark in kinds.marks(kind)]
    wanted = {name: True for name in kinds.all_kinds() + marks}
    if len(names) != len(wanted) or not all([is_one_of(name, wanted) for name in names]):
        return False
    if not _are_unlike_names([names[kind] for kind in kinds.all_kinds()]):
        return False
    return all([_are_unlike_names([names[mark] for mark in kinds.marks(kind)]) for kind in kinds.all_kinds()])


def _are_unlike_names(things):
    return all([is_name(thing) for thing in things]) and len(set(things)) == len(things)


def _rows_fault(rows):
    """Tell the index of the first wrong row, None if all are right."""
    if not is_list(rows):
        return 0
    found = {}
    for index, row in enumerate(rows):
        if not is_row(row) or row[0] in found:
            return index
        found[row[0]] = row
    rounds = _kinds_in_themselves({kind: found[kind][1] for kind in found})
    for index, (kind, above, _, lasts) in enumerate(rows):
        if above == "":
            continue
        if above not in found or kind in rounds or (lasts and not found[above][3]):
            return index
    return None


def _kinds_in_themselves(aboves):
    """Tell, as the keys of a dict, the kinds that lie in themselves."""
    rounds = {}
    done = {}
    for start in aboves:
        way = []
        kind = start
        # What was walked once is not walked again, so that many rows are soon judged.
        while kind in aboves and kind not in done:
            done[kind] = start
            way.append(kind)
            kind = aboves[kind]
        if done.get(kind) == start:
            for member in way[way.index(kind):]:
                rounds[member] = True
    return rounds
