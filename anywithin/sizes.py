"""All stands of one size, and how many there are."""

from anywithin.errors import BadMany
from anywithin.kinds import need_kinds
from anywithin.words import is_number


def all_stands(kinds, many):
    """Tell all stands of just many records, told, ascending."""
    need_kinds(kinds)
    need_many(many)
    return sorted(_heaps(_records_in(kinds, "", many), many))


def count_stands(kinds, many):
    """Tell how many stands of just many records there are."""
    need_kinds(kinds)
    need_many(many)
    return _heap_counts(kinds, "", many)[many]


def need_many(many):
    """Refuse what is no NUMBER."""
    if not is_number(many):
        raise BadMany(many)


def _records_in(kinds, above, most):
    """Tell (size, record) for all records of at most so many that may lie directly in above."""
    found = []
    if most == 0:
        return found
    for kind in kinds.parts(above):
        parts = _records_in(kinds, kind, most - 1)
        for size in range(most):
            for heap in _heaps(parts, size):
                found.extend([(size + 1, (kind, mark, heap)) for mark in kinds.marks(kind)])
    return found


def _heaps(sized, many):
    """Tell all heaps, told, of just many records that can be made of records with their sizes."""
    # Each heap is made once: its members are taken in the order of their records.
    ordered = sorted(sized, key=lambda pair: pair[1])
    return _heaps_from(ordered, 0, many)


def _heaps_from(ordered, start, many):
    if many == 0:
        return [()]
    found = []
    for index in range(start, len(ordered)):
        size, record = ordered[index]
        if size <= many:
            found.extend([(record, *rest) for rest in _heaps_from(ordered, index, many - size)])
    return found


def _heap_counts(kinds, above, most):
    """Tell how many heaps of 0, 1 .. most records may lie directly in above."""
    # How many single records there are of each size: marks, times heaps of parts one smaller.
    records = [0] * (most + 1)
    if most > 0:
        for kind in kinds.parts(above):
            inner = _heap_counts(kinds, kind, most - 1)
            for size in range(most):
                records[size + 1] += len(kinds.marks(kind)) * inner[size]
    # Each record of size d stands once, twice .. in a heap: so d of it is summed at d, 2 d ..
    sums = [0] * (most + 1)
    for size in range(1, most + 1):
        for index in range(size, most + 1, size):
            sums[index] += size * records[size]
    heaps = [1]
    for size in range(1, most + 1):
        heaps.append(sum([sums[part] * heaps[size - part] for part in range(1, size + 1)]) // size)
    return heaps
