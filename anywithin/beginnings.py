"""Beginnings: what may stand at first, any number of it where a seed has many."""

from anywithin.bars import are_rising, has_just_pairs
from anywithin.errors import BadBeginning
from anywithin.fitting import are_same, placed_paths
from anywithin.kinds import need_kinds
from anywithin.paths import record_or_none
from anywithin.sowings import is_sown, sown
from anywithin.stands import need_stand
from anywithin.trees import paths_in
from anywithin.words import is_list, is_list_of, is_one_of, is_path_key


def is_beginning(kinds, thing):
    """Tell whether any object is a beginning."""
    need_kinds(kinds)
    return seed_index(kinds, thing) is None


def seed_index(kinds, thing):
    """Tell the index of the first thing that is no seed of a top kind, 0 for no list, None if all are."""
    if not is_list(thing):
        return 0
    return _wrong_seed(kinds, "", thing)


def _wrong_seed(kinds, above, things):
    for index, thing in enumerate(things):
        if not _is_seed(kinds, above, thing):
            return index
    return None


def _is_seed(kinds, above, thing):
    if not is_list_of(thing, 4):
        return False
    kind, mark, seeds, many = thing
    if not is_one_of(kind, kinds.parts(above)) or not is_one_of(mark, kinds.marks(kind)):
        return False
    return isinstance(many, bool) and is_list(seeds) and _wrong_seed(kinds, kind, seeds) is None


def told_seeds(seeds):
    """Tell the seeds of one list, whatever form they have, in the told form."""
    return tuple(sorted([(kind, mark, told_seeds(parts), many) for kind, mark, parts, many in seeds]))


def need_beginning(kinds, beginning):
    """Tell the told form of beginning, or refuse kinds or beginning."""
    need_kinds(kinds)
    index = seed_index(kinds, beginning)
    if index is not None:
        raise BadBeginning(index)
    return told_seeds(beginning)


def told_beginning(kinds, beginning):
    """Tell the told form: tuples throughout, ascending at each level."""
    return need_beginning(kinds, beginning)


def begins(kinds, beginning, stand):
    """Tell whether stand lies in beginning."""
    seeds = need_beginning(kinds, beginning)
    return is_sown(seeds, need_stand(kinds, stand))


def sowing(kinds, beginning, stand):
    """Tell a dict from each path of stand to a seed's path, None if there is none."""
    seeds = need_beginning(kinds, beginning)
    places, _ = sown(seeds, need_stand(kinds, stand))
    return None if places is None else placed_paths(places, (), ())


def sowing_fault(kinds, beginning, stand, thing):
    """Tell (why, path) of the first thing that is wrong in any object, None for a sowing."""
    seeds = need_beginning(kinds, beginning)
    told = need_stand(kinds, stand)
    paths = paths_in(told)
    known = {path: True for path in paths}
    if not isinstance(thing, dict) or len(thing) != len(known):
        return ("form", 0)
    if not all([is_path_key(key) and key in known for key in thing]):
        return ("form", 0)
    for path in paths:
        if not _goes_right(seeds, told, thing, path):
            return ("path", path)
    taken = {}
    for path in paths:
        place = (path[:-1], tuple(thing[path]))
        if place in taken and not record_or_none(seeds, thing[path])[3]:
            return ("twice", path)
        taken[place] = True
    return None


def _goes_right(seeds, heap, thing, path):
    """Tell whether what thing says of path, all paths ahead being right, is a fitting seed's path."""
    seed = record_or_none(seeds, thing[path])
    if seed is None or not are_same(record_or_none(heap, path), seed):
        return False
    holder = () if len(path) == 1 else tuple(thing[path[:-1]])
    return tuple(thing[path])[:-1] == holder


def lack(kinds, beginning, stand):
    """Tell what lacks of stand in beginning, None if stand lies in it."""
    seeds = need_beginning(kinds, beginning)
    return sown(seeds, need_stand(kinds, stand))[1]


def lack_fault(kinds, beginning, stand, thing):
    """Tell ("form", path) of the first thing that is wrong in any object, None for a lack."""
    seeds = need_beginning(kinds, beginning)
    return _lack_fault_at(seeds, need_stand(kinds, stand), thing, ())


def _lack_fault_at(seeds, records, thing, way):
    if not _has_lack_form(seeds, records, thing):
        return ("form", way)
    mine, theirs, inner = thing
    pairs = [
        (index, at) for index in mine for at, seed in enumerate(seeds)
        if at not in theirs and are_same(records[index], seed)
    ]
    if not has_just_pairs(inner, pairs):
        return ("form", way)
    for index, at in pairs:
        fault = _lack_fault_at(seeds[at][2], records[index][2], inner[(index, at)], (*way, (index, at)))
        if fault is not None:
            return fault
    return None


def _has_lack_form(seeds, records, thing):
    if not is_list_of(thing, 3) or not isinstance(thing[2], dict):
        return False
    mine, theirs, _ = thing
    if not are_rising(mine, len(records)) or not are_rising(theirs, len(seeds)):
        return False
    return len(theirs) < len(mine) and not any([seeds[at][3] for at in theirs])
