"""What bars a stand from lying in another one."""

from anywithin.fitting import are_same, fitted
from anywithin.placings import need_less_more
from anywithin.words import is_index, is_list, is_list_of, is_pair_key


def bar(kinds, less, more):
    """Tell a bar of less and more, None if less lies in more."""
    told_less, told_more = need_less_more(kinds, less, more)
    return fitted(told_less, told_more)[1]


def bar_fault(kinds, less, more, thing):
    """Tell (why, way) of the first thing that is wrong in any object, None for a bar."""
    told_less, told_more = need_less_more(kinds, less, more)
    return _fault_at(told_less, told_more, thing, ())


def _fault_at(less, more, thing, way):
    if not _has_bar_form(less, more, thing):
        return ("form", way)
    mine, theirs, inner = thing
    if len(theirs) >= len(mine):
        return ("few", way)
    pairs = [
        (index, at) for index in mine for at, other in enumerate(more)
        if at not in theirs and are_same(less[index], other)
    ]
    if not has_just_pairs(inner, pairs):
        return ("pairs", way)
    for index, at in pairs:
        fault = _fault_at(less[index][2], more[at][2], inner[(index, at)], (*way, (index, at)))
        if fault is not None:
            return fault
    return None


def _has_bar_form(less, more, thing):
    if not is_list_of(thing, 3) or not isinstance(thing[2], dict):
        return False
    return are_rising(thing[0], len(less)) and are_rising(thing[1], len(more))


def are_rising(thing, many):
    """Tell whether any object is an ascending list of unlike indexes of a list of so many."""
    if not is_list(thing) or not all([is_index(index, many) for index in thing]):
        return False
    return all([thing[at - 1] < thing[at] for at in range(1, len(thing))])


def has_just_pairs(thing, pairs):
    """Tell whether a dict has just these pairs as its keys."""
    known = {pair: True for pair in pairs}
    return len(thing) == len(known) and all([is_pair_key(key) and key in known for key in thing])
