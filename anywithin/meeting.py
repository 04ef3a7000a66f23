"""Lists that meet all of some lists."""

from anywithin.refusals import BadLots
from anywithin.words import is_list, is_number


def least_meeting(lots):
    """Tell the lists that meet all of lots while no lesser part of them does, ascending."""
    if not is_list(lots):
        raise BadLots(0)
    ahead = None
    for index, lot in enumerate(lots):
        if not is_list(lot) or not _are_rising(lot):
            raise BadLots(index)
        if lot:
            word = "string" if isinstance(lot[0], str) else "number"
            if ahead is not None and word != ahead:
                raise BadLots(index)
            ahead = word
    return meeting_of([list(lot) for lot in lots])


def _are_rising(things):
    """Tell whether these, any objects, are unlike strings, or NUMBERS, ascending."""
    strings = all([isinstance(thing, str) for thing in things])
    if not strings and not all([is_number(thing) for thing in things]):
        return False
    return all([one < things[index + 1] for index, one in enumerate(things[:-1])])


def meeting_of(lots):
    """Tell the least lists that meet all of these, ascending."""
    found = [[]]
    for lot in lots:
        meets = [one for one in found if are_meeting(one, lot)]
        others = [one for one in found if not are_meeting(one, lot)]
        # What did not meet the lot has nothing of it, so none of these is a part of another one.
        longer = [sorted([*one, thing]) for one in others for thing in lot]
        found = [*meets, *[one for one in longer if not any([is_part(less, one) for less in meets])]]
    return sorted(found)


def are_meeting(one, other):
    """Tell whether something stands in both lists."""
    return any([thing in other for thing in one])


def is_part(less, more):
    """Tell whether all of a list stands in another one."""
    return all([thing in more for thing in less])
