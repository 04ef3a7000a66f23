"""Told beds: which lie within which, and what two have in common.

A bed is (some, many), both tuples of places (kind, mark, bed).
"""

from anywithin.fitting import are_same
from anywithin.matching import matched
from anywithin.words import each_once


def is_bed_within(bed, cover):
    """Tell whether each stand that lies in a bed lies in the other one; both may have any form."""
    for place in bed[1]:
        if not _is_covered(place, cover[1]):
            return False
    scarce = [place for place in bed[0] if not _is_covered(place, cover[1])]
    reach = [[at for at, other in enumerate(cover[0]) if _is_place_within(place, other)] for place in scarce]
    return matched(reach)[0] is not None


def _is_covered(place, others):
    """Tell whether a place is within one of some others."""
    for other in others:
        if _is_place_within(place, other):
            return True
    return False


def _is_place_within(place, other):
    return are_same(place, other) and is_bed_within(place[2], other[2])


def told_bed_of(bed):
    """Tell the told form of a bed in any form."""
    some, many = [[(kind, mark, told_bed_of(inner)) for kind, mark, inner in places] for places in bed]
    return lean_bed(some, many)


def lean_bed(some, many):
    """Tell the told bed of these places, whose own beds are told."""
    most = []
    for place in each_once(many):
        if not _is_covered(place, most):
            most = [*[other for other in most if not _is_place_within(other, place)], place]
    return (tuple(sorted([place for place in some if not _is_covered(place, most)])), tuple(sorted(most)))


def greatest_told(beds):
    """Tell the greatest of some told beds, ascending, each once."""
    found = []
    for bed in each_once(beds):
        if not any([is_bed_within(bed, other) for other in found]):
            found = [*[other for other in found if not is_bed_within(other, bed)], bed]
    return sorted(found)


def met_beds(bed, cover):
    """Tell the greatest beds that are within both of two told beds, ascending."""
    if is_bed_within(bed, cover):
        return [bed]
    if is_bed_within(cover, bed):
        return [cover]
    # A state is (places that take one, ascending; indexes of those of cover's that are not used for these).
    states = [((), tuple(range(len(cover[0]))))]
    for place in bed[0]:
        free = _met_with(place, cover[1])
        beside = [_met_with(place, [other]) for other in cover[0]]
        states = each_once([after for state in states for after in _paired(cover[0], free, beside, state)])
    left = [_met_with(other, bed[1]) for other in cover[0]]
    lists = each_once([some for state in states for some in _filled(left, state)])
    many = [one for place in bed[1] for one in _met_with(place, cover[1])]
    return greatest_told([lean_bed(some, many) for some in lists])


def _met_with(place, others):
    """Tell the greatest places that take what a place and one of some others take."""
    found = []
    for other in others:
        if are_same(place, other):
            found.extend([(place[0], place[1], inner) for inner in met_beds(place[2], other[2])])
    return found


def _paired(others, free, beside, state):
    """Tell the states behind one place more that takes one.

    free are the places in common with others that take many, beside those with each of others.
    """
    some, rest = state
    # To leave a place aside is never the greatest if it may go with one that takes many.
    found = [(_with(some, place), rest) for place in free] if free else [state]
    for at, index in enumerate(rest):
        # Alike ones serve alike, so the first of them is used first.
        if at == 0 or others[rest[at - 1]] != others[index]:
            left = (*rest[:at], *rest[at + 1:])
            found.extend([(_with(some, place), left) for place in beside[index]])
    return found


def _filled(left, state):
    """Tell the lists of places that take one if what is not used goes with places that take many."""
    some, rest = state
    lists = [some]
    for index in rest:
        if left[index]:
            lists = each_once([_with(one, place) for one in lists for place in left[index]])
    return lists


def _with(places, place):
    return tuple(sorted([*places, place]))
