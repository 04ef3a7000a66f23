"""Records named by their paths, and stands as rows."""

from anywithin.errors import BadFlat, BadGoal, BadMark, BadPath, BadRecord
from anywithin.kinds import need_kinds
from anywithin.stands import is_record_in, need_stand
from anywithin.trees import heap_of, paths_in, rows_of, told_heap
from anywithin.words import is_index, is_list, is_list_of, is_one_of


def paths_of(kinds, stand):
    """Tell all paths of a stand, ascending."""
    return paths_in(need_stand(kinds, stand))


def record_at(kinds, stand, path):
    """Tell the record at path."""
    return _need_record(need_stand(kinds, stand), path)


def without_path(kinds, stand, path):
    """Tell the stand without the record at path and all that lies in it."""
    told = need_stand(kinds, stand)
    _need_record(told, path)
    return _exchanged(told, path, [])


def set_mark(kinds, stand, path, mark):
    """Tell the stand with this mark at path."""
    told = need_stand(kinds, stand)
    kind, _, parts = _need_record(told, path)
    if not is_one_of(mark, kinds.marks(kind)):
        raise BadMark(mark)
    return _exchanged(told, path, [(kind, mark, parts)])


def put_in(kinds, stand, path, record):
    """Tell the stand with one record more directly in the one at path, or, for (), at the top."""
    told = need_stand(kinds, stand)
    if is_list_of(path, 0):
        _need_fitting(kinds, "", record)
        return told_heap([*told, record])
    kind, mark, parts = _need_record(told, path)
    _need_fitting(kinds, kind, record)
    return _exchanged(told, path, [(kind, mark, told_heap([*parts, record]))])


def moved_to(kinds, stand, path, goal):
    """Tell the stand with the record at path, and all in it, directly in the one at goal."""
    told = need_stand(kinds, stand)
    record = _need_record(told, path)
    holder = record_or_none(told, goal)
    if holder is None or holder[0] != kinds.above(record[0]):
        raise BadGoal(goal)
    paths = paths_in(told)
    # Paths change as soon as a record is taken out, so the move is done by rows.
    rows = {number: row for number, row in enumerate(rows_of(told))}
    rows[paths.index(tuple(path))] = (record[0], record[1], paths.index(tuple(goal)))
    return heap_of(rows)


def record_or_none(heap, path):
    """Tell the record at path in a told stand, None if path, any object, is none of it."""
    if not is_list(path):
        return None
    record = None
    parts = heap
    for index in path:
        if not is_index(index, len(parts)):
            return None
        record = parts[index]
        parts = record[2]
    return record


def _need_record(heap, path):
    record = record_or_none(heap, path)
    if record is None:
        raise BadPath(path)
    return record


def _need_fitting(kinds, above, record):
    if not is_record_in(kinds, above, record):
        raise BadRecord(record)


def _exchanged(heap, path, records):
    """Tell heap with these records in the place of the one at path."""
    index = path[0]
    rest = path[1:]
    if rest:
        kind, mark, parts = heap[index]
        records = [(kind, mark, _exchanged(parts, rest, records))]
    return told_heap([*heap[:index], *records, *heap[index + 1:]])


def flat_rows(kinds, stand):
    """Tell (kind, mark, holder) for each path, holder the index of the row of what it lies in."""
    return rows_of(need_stand(kinds, stand))


def stand_of_flat(kinds, flat):
    """Tell the stand that has just the records of these rows."""
    need_kinds(kinds)
    if not is_list(flat):
        raise BadFlat(0)
    rows = {}
    for index, row in enumerate(flat):
        if not _is_flat_row(kinds, rows, row):
            raise BadFlat(index)
        kind, mark, holder = row
        rows[index] = (kind, mark, holder)
    return heap_of(rows)


def _is_flat_row(kinds, rows, row):
    """Tell whether any object can be the next row behind these."""
    if not is_list_of(row, 3) or not is_one_of(row[0], kinds.all_kinds()):
        return False
    kind, mark, holder = row
    if not is_one_of(mark, kinds.marks(kind)):
        return False
    if kinds.above(kind) == "":
        return holder is None
    return is_index(holder, len(rows)) and rows[holder][0] == kinds.above(kind)
