"""Told stands as rows, and back.

A row is (kind, mark, holder), holder the number of what its record lies in, None at the top.
"""


def told_heap(records):
    """Tell the records of one list, whatever form they have, in the told form."""
    return tuple(sorted([told_record(record) for record in records]))


def told_record(record):
    """Tell a record in the told form."""
    kind, mark, parts = record
    return (kind, mark, told_heap(parts))


def heap_size(heap):
    """Tell how many records there are at all levels."""
    return sum([1 + heap_size(record[2]) for record in heap])


def rows_of(heap):
    """Tell the rows of a told stand, each ahead of those of what lies in its record."""
    rows = []
    _add_rows(rows, heap, None)
    return rows


def _add_rows(rows, heap, holder):
    for kind, mark, parts in heap:
        rows.append((kind, mark, holder))
        _add_rows(rows, parts, len(rows) - 1)


def paths_in(heap):
    """Tell all paths of a told stand, ascending."""
    paths = []
    _add_paths(paths, heap, ())
    return paths


def _add_paths(paths, heap, way):
    for index, record in enumerate(heap):
        paths.append((*way, index))
        _add_paths(paths, record[2], (*way, index))


def heap_of(rows):
    """Tell the told stand of a dict from numbers to rows, in whatever order these come."""
    return tuple([told for told, _ in _placed(_inner_of(rows), rows, None)])


def numbers_of(rows):
    """Tell the numbers of the rows in the order in which heap_of has their records."""
    return [number for _, numbers in _placed(_inner_of(rows), rows, None) for number in numbers]


def places_of(rows):
    """Tell a dict from the numbers of the rows to those that the same records have in the told stand."""
    return {number: place for place, number in enumerate(numbers_of(rows))}


def _inner_of(rows):
    """Tell which numbers lie directly in which one, None for the top ones."""
    inner = {None: []}
    for number in rows:
        inner[number] = []
    for number in sorted(rows):
        inner[rows[number][2]].append(number)
    return inner


def _placed(inner, rows, holder):
    """Tell, ascending, the told form of each record that lies in holder, and the numbers of it and all in it."""
    found = []
    for number in inner[holder]:
        within = _placed(inner, rows, number)
        told = (rows[number][0], rows[number][1], tuple([part for part, _ in within]))
        # Of alike records the one with the lesser number stays ahead.
        found.append((told, [number, *[one for _, numbers in within for one in numbers]]))
    return sorted(found)


def without_row(rows, number):
    """Tell the rows without this one and without all that lies in it."""
    return {one: rows[one] for one in rows if one != number and not lies_within(rows, one, number)}


def lies_within(rows, number, holder):
    """Tell whether number lies in holder at whatever level."""
    at = rows[number][2]
    while at is not None and at != holder:
        at = rows[at][2]
    return at is not None
