"""The least of some stands, and what lies above them."""

from anywithin.beneath import Beneath
from anywithin.errors import BadStands
from anywithin.fitting import fits_in
from anywithin.kinds import need_kinds
from anywithin.stands import is_stand, need_stand
from anywithin.trees import heap_size, told_heap
from anywithin.words import is_list


def need_stands(kinds, stands):
    """Tell the told forms of a list of stands, or refuse kinds or list."""
    need_kinds(kinds)
    if not is_list(stands):
        raise BadStands(0)
    for index, stand in enumerate(stands):
        if not is_stand(kinds, stand):
            raise BadStands(index)
    return [told_heap(stand) for stand in stands]


def least_ones(kinds, stands):
    """Tell those of the stands in which no other one lies, told, ascending, each once."""
    return least_told(need_stands(kinds, stands))


def least_told(heaps):
    """Tell the least of some told stands, ascending."""
    found, beside = [], []
    reached = 0
    beneath = Beneath(found)
    # What lies in another one and is not alike to it is smaller, so smaller ones go first.
    for many, heap in sorted([(heap_size(heap), heap) for heap in heaps]):
        if many > reached:
            found.extend(beside)
            beside = []
            reached = many
            beneath = Beneath(found)
        if (not beside or beside[-1] != heap) and not beneath.has_above(heap):
            beside.append(heap)
    return sorted([*found, *beside])


def is_above(kinds, stands, stand):
    """Tell whether one of stands lies in stand."""
    told = need_stands(kinds, stands)
    return is_above_told(told, need_stand(kinds, stand))


def is_above_told(heaps, heap):
    """Tell whether one of some told stands lies in a told stand."""
    for less in heaps:
        if fits_in(less, heap):
            return True
    return False
