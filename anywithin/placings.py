"""Which stand lies in which, and by what placing."""

from anywithin.errors import BadLess, BadMore
from anywithin.fitting import are_same, fits_in, fitted, placed_paths
from anywithin.paths import record_or_none
from anywithin.stands import stand_index
from anywithin.trees import paths_in, told_heap
from anywithin.words import is_path_key


def need_less_more(kinds, less, more):
    """Tell the told forms of less and more, or refuse the first of the three that is wrong."""
    index = stand_index(kinds, less)
    if index is not None:
        raise BadLess(index)
    index = stand_index(kinds, more)
    if index is not None:
        raise BadMore(index)
    return told_heap(less), told_heap(more)


def lies_in(kinds, less, more):
    """Tell whether less lies in more."""
    told_less, told_more = need_less_more(kinds, less, more)
    return fits_in(told_less, told_more)


def placing(kinds, less, more):
    """Tell a dict from each path of less to its place in more, None if there is none."""
    told_less, told_more = need_less_more(kinds, less, more)
    places, _ = fitted(told_less, told_more)
    return None if places is None else placed_paths(places, (), ())


def placing_fault(kinds, less, more, thing):
    """Tell (why, path) of the first thing that is wrong in any object, None for a placing."""
    told_less, told_more = need_less_more(kinds, less, more)
    paths = paths_in(told_less)
    if not _leads_paths(paths, told_more, thing):
        return ("form", ())
    seen = {}
    for path in paths:
        place = tuple(thing[path])
        if place in seen:
            return ("twice", path)
        seen[place] = True
        if not are_same(record_or_none(told_less, path), record_or_none(told_more, place)):
            return ("kind", path)
        holder = () if len(path) == 1 else tuple(thing[path[:-1]])
        if place[:-1] != holder:
            return ("lies", path)
    return None


def _leads_paths(paths, heap, thing):
    """Tell whether any object is a dict from just these paths to paths of heap."""
    known = {path: True for path in paths}
    if not isinstance(thing, dict) or len(thing) != len(known):
        return False
    if not all([is_path_key(key) and key in known for key in thing]):
        return False
    return all([record_or_none(heap, place) is not None for place in list(thing.values())])
