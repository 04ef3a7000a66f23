"""Beginnings made into stands, stands into beginnings, and beginnings within beginnings."""

from anywithin.beginnings import need_beginning, seed_index, told_seeds
from anywithin.errors import BadMate, BadNumber
from anywithin.fitting import are_same
from anywithin.matching import matched
from anywithin.sowings import is_sown
from anywithin.stands import need_stand
from anywithin.trees import heap_of, rows_of, told_heap, without_row
from anywithin.words import is_number


def need_mate_beginning(kinds, mate):
    """Tell the told form of the other beginning, or refuse it."""
    index = seed_index(kinds, mate)
    if index is not None:
        raise BadMate(index)
    return told_seeds(mate)


def sprouted(kinds, beginning, number):
    """Tell the stand that has one record for each seed, so many for each with many."""
    seeds = need_beginning(kinds, beginning)
    if not is_number(number):
        raise BadNumber(number)
    return told_heap(_sprouted(seeds, number))


def _sprouted(seeds, number):
    records = []
    for kind, mark, inner, many in seeds:
        record = (kind, mark, _sprouted(inner, number))
        records.extend([record] * number if many else [record])
    return records


def is_within(kinds, beginning, mate):
    """Tell whether each stand that lies in beginning lies in mate."""
    seeds = need_beginning(kinds, beginning)
    return _are_within(seeds, need_mate_beginning(kinds, mate))


def _are_within(seeds, mates):
    reach = []
    for seed in seeds:
        found = [at for at, mate in enumerate(mates) if are_same(seed, mate) and _are_within(seed[2], mate[2])]
        if any([mates[at][3] for at in found]):
            continue
        # Of a seed with many more records come than all seeds without many can take.
        if seed[3]:
            return False
        reach.append(found)
    return matched(reach)[0] is not None


def stand_outside(kinds, beginning, mate):
    """Tell a least stand that lies in beginning and not in mate, None if there is none."""
    seeds = need_beginning(kinds, beginning)
    mates = need_mate_beginning(kinds, mate)
    if _are_within(seeds, mates):
        return None
    number = 0
    # It ends: with one record more of each than mate has seeds, some stand is outside.
    while is_sown(mates, _sprouted(seeds, number)):
        number += 1
    return _thinned_outside(told_heap(_sprouted(seeds, number)), mates)


def _thinned_outside(heap, mates):
    """Leave out whatever may be left out so that the rest still does not lie in mates."""
    rows = rows_of(heap)
    left = {number: row for number, row in enumerate(rows)}
    for number in range(len(rows)):
        # What had to stay once has to stay when less is left, so one round is enough.
        if number in left:
            fewer = without_row(left, number)
            if not is_sown(mates, heap_of(fewer)):
                left = fewer
    return heap_of(left)


def seeds_of(kinds, stand):
    """Tell the beginning in which just those stands lie that lie in stand."""
    return told_seeds(_seeds_for(need_stand(kinds, stand)))


def _seeds_for(heap):
    return [(kind, mark, _seeds_for(parts), False) for kind, mark, parts in heap]


def more_seeds(kinds, beginning, mate):
    """Tell the beginning with all seeds of both."""
    seeds = need_beginning(kinds, beginning)
    return told_seeds([*seeds, *need_mate_beginning(kinds, mate)])
