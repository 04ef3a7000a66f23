"""Told heaps of records within one another: what lies where, or what bars it."""

from anywithin.matching import matched


def are_same(record, other):
    """Tell whether two records, or a record and a seed, have the same kind and mark."""
    return record[0] == other[0] and record[1] == other[1]


def fits_in(less, more):
    """Tell whether the told heap less lies in the told heap more."""
    if len(less) > len(more):
        return False
    if less == more:
        return True
    reach = []
    for kind, mark, parts in less:
        # This is asked more often than all else, so no other function is called for what has no parts.
        found = [
            at for at, (there, other, inner) in enumerate(more)
            if kind == there and mark == other and (not parts or fits_in(parts, inner))
        ]
        if not found:
            return False
        reach.append(found)
    return len(less) == 1 or matched(reach)[0] is not None


def fitted(less, more):
    """Tell (places, None), places a (place, inner places) for each of less; or (None, bar)."""
    inner, bars = {}, {}
    reach = []
    for index, record in enumerate(less):
        found = []
        for at, other in enumerate(more):
            if are_same(record, other):
                inner[(index, at)], bars[(index, at)] = fitted(record[2], other[2])
                if inner[(index, at)] is not None:
                    found.append(at)
        reach.append(found)
    places, short = matched(reach)
    if places is not None:
        return [(at, inner[(index, at)]) for index, at in enumerate(places)], None
    mine, theirs = short
    # What is not in theirs was not reached, so each pair that is kept here has a bar.
    kept = [pair for pair in sorted(bars) if pair[0] in mine and pair[1] not in theirs]
    return None, (mine, theirs, {pair: bars[pair] for pair in kept})


def placed_paths(places, way, goal):
    """Tell the dict of paths, ascending, that such places say; way and goal lead to their heaps."""
    paths = {}
    for index, (at, inner) in enumerate(places):
        path = (*way, index)
        place = (*goal, at)
        paths[path] = place
        paths.update(placed_paths(inner, path, place))
    return paths
