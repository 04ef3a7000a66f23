"""What lies above none of some told stands, as told beds; and what lies in none of some told beds, as told stands.

above is the kind in which all of this lies directly, "" at the top.
"""

from anywithin.bedding import greatest_told, lean_bed, met_beds
from anywithin.least import is_above_told, least_told
from anywithin.overlays import overlays_told
from anywithin.words import each_once


def full_bed(kinds, above):
    """Tell the bed in which all lies."""
    return ((), tuple([_full_place(kinds, sort) for sort in _sorts_in(kinds, above)]))


def _full_place(kinds, sort):
    return (sort[0], sort[1], full_bed(kinds, sort[0]))


def _sorts_in(kinds, above):
    """Tell the pairs of a kind and a mark of what may lie directly in above, ascending."""
    return [(kind, mark) for kind in kinds.parts(above) for mark in kinds.marks(kind)]


def _of_sort(things, sort):
    """Tell what the parts, or the beds, of those of some records, or places, are that have this kind and mark."""
    return [inner for kind, mark, inner in things if (kind, mark) == sort]


def garden_told(kinds, above, heaps):
    """Tell the greatest beds in which none of some told heaps lies, ascending."""
    beds = [full_bed(kinds, above)]
    for heap in least_told(heaps):
        beside = _garden_of_one(kinds, above, heap)
        beds = greatest_told([one for bed in beds for other in beside for one in met_beds(bed, other)])
    return beds


def _garden_of_one(kinds, above, heap):
    """Tell the greatest beds in which a told heap does not lie, ascending.

    It does not if some of its records have, all together, too few places: fewer free ones, of any form, than they
    are, and else none but for what lies above none of them.
    """
    found = []
    for lot in _parts_of(heap):
        sorts = each_once([(kind, mark) for kind, mark, _ in lot])
        many = []
        for sort in _sorts_in(kinds, above):
            beds = garden_told(kinds, sort[0], _of_sort(lot, sort))
            many.extend([(*sort, bed) for bed in beds])
        # A free one of another kind or mark goes to the many.
        free = [_full_place(kinds, sort) for sort in sorts]
        found.extend([lean_bed(some, many) for some in _choices_of(free, len(lot) - 1)])
    return greatest_told(found)


def wall_told(kinds, above, beds):
    """Tell the least told heaps that lie in none of some told beds, ascending."""
    found = [()]
    for bed in greatest_told(beds):
        beside = _beyond_one(kinds, above, bed)
        found = least_told([both for heap in found for both in _above_both(heap, beside)])
    return found


def _above_both(heap, others):
    """Tell the least told heaps in which a told one lies, and one of some others."""
    if is_above_told(others, heap):
        return [heap]
    return [both for other in others for both in overlays_told(heap, other)]


def _beyond_one(kinds, above, bed):
    """Tell the least told heaps that do not lie in a told bed.

    One does not if some of its records, more than the places of a lot, lie in none of all other places.
    """
    some, many = bed
    found = []
    for left in [(), *_parts_of(some)]:
        others = []
        for sort in _sorts_in(kinds, above):
            heaps = wall_told(kinds, sort[0], _of_sort([*left, *many], sort))
            others.extend([(*sort, heap) for heap in heaps])
        found.extend(_choices_of(others, len(some) - len(left) + 1))
    return least_told(found)


def _parts_of(things):
    """Tell all parts, but the empty one, of an ascending tuple, each once."""
    lots = [()]
    for thing in things:
        lots = each_once([*lots, *[(*lot, thing) for lot in lots]])
    return [lot for lot in lots if lot]


def _choices_of(things, many):
    """Tell the tuples of so many of some ascending things, each as often as wished, ascending."""
    found = [()]
    for _ in range(many):
        found = [(*lot, thing) for lot in found for thing in things if not lot or lot[-1] <= thing]
    return found
