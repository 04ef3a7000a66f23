"""The least stands in which two stands both lie."""

from anywithin.fitting import are_same
from anywithin.least import least_told
from anywithin.stands import need_mate_stand, need_stand
from anywithin.words import each_once


def overlays(kinds, stand, mate):
    """Tell the least stands in which both lie, ascending."""
    told = need_stand(kinds, stand)
    return overlays_told(told, need_mate_stand(kinds, mate))


def overlays_told(heap, mate):
    """Tell the overlays of two told heaps of records."""
    # A state is (what is made so far, what of mate is not yet used), both ascending.
    states = [((), mate)]
    for record in heap:
        states = each_once([after for made, rest in states for after in _laid(record, made, rest)])
    return least_told([tuple(sorted([*made, *rest])) for made, rest in states])


def _laid(record, made, rest):
    """Tell the states in which record stands by itself, or is one of the rest."""
    found = [(tuple(sorted([*made, record])), rest)]
    for at, other in enumerate(rest):
        # Alike ones stand side by side; to be one with either of them makes alike stands.
        if not are_same(record, other) or (at > 0 and rest[at - 1] == other):
            continue
        for parts in overlays_told(record[2], other[2]):
            one = (record[0], record[1], parts)
            found.append((tuple(sorted([*made, one])), (*rest[:at], *rest[at + 1:])))
    return found
