"""Least lots: of what holds the more the more there is, what is just enough, and without what it fails."""

from anywithin.meeting import meeting_of
from anywithin.words import is_list, is_list_of, is_number


def is_lot(things, lot):
    """Tell whether any object is an ascending list of unlike ones of these, all strings, or all NUMBERS."""
    if not is_list(lot) or not all([isinstance(one, str) or is_number(one) for one in lot]):
        return False
    if not all([one in things for one in lot]):
        return False
    return all([one < lot[index + 1] for index, one in enumerate(lot[:-1])])


def least_lots(things, holds):
    """Tell the least lots of these that hold, and the least without which all the rest does not, both ascending.

    holds tells of a lot whether it does; what holds does so with more. Each of both lists is just what meets all of
    the other one, so it is enough to try what meets all that was found.
    """
    found = []
    least = _one_more(things, holds, found)
    while least is not None:
        found = [*found, least]
        least = _one_more(things, holds, found)
    return sorted(found), meeting_of(found)


def _one_more(things, holds, found):
    """Tell a least lot that holds, and is none of those that were found, None if there is no more."""
    for lot in meeting_of(found):
        rest = [thing for thing in things if thing not in lot]
        if holds(rest):
            return _lessened(rest, holds)
    return None


def _lessened(lot, holds):
    """Tell a least part of a lot that holds."""
    left = lot
    for thing in lot:
        fewer = [one for one in left if one != thing]
        if holds(fewer):
            left = fewer
    return left


def pair_fault(things, thing, mine, theirs, words):
    """Tell what is first wrong in any object, None for the pair of these two lists of lots.

    words are the words for what is wrong in the first one, and in the second one.
    """
    if not is_list_of(thing, 2) or not is_list(thing[0]) or not is_list(thing[1]):
        return ("form", 0)
    index = _wrong_lot(things, thing[0], mine)
    if index is not None:
        return (words[0], index)
    index = _wrong_lot(things, thing[1], theirs)
    if index is not None:
        return (words[1], index)
    there = [list(lot) for lot in thing[1]]
    for lot in meeting_of([list(one) for one in thing[0]]):
        if lot not in there:
            return ("lacks", lot)
    return None


def _wrong_lot(things, lots, right):
    """Tell the index of the first of lots, any objects, that is none of the right ones or not above the one ahead."""
    for index, lot in enumerate(lots):
        if not is_lot(things, lot) or list(lot) not in right:
            return index
        if index > 0 and list(lot) <= list(lots[index - 1]):
            return index
    return None
