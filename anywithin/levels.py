"""Plans, stands, beginnings and plays without one of their kinds."""

from anywithin.beginnings import need_beginning
from anywithin.errors import BadKind
from anywithin.kinds import Kinds
from anywithin.plans import Plan, need_plan
from anywithin.plays import need_play
from anywithin.refusals import NotBare
from anywithin.shifting import deed_shifted
from anywithin.stands import need_stand
from anywithin.steps import numbers_named
from anywithin.trees import heap_of, heap_size, places_of, rows_of
from anywithin.words import is_one_of


def _need_bare(plan, kind):
    """Refuse what is no kind of plan's, or one in which some kind lies."""
    if not is_one_of(kind, plan.kinds().all_kinds()):
        raise BadKind(kind)
    if plan.kinds().parts(kind):
        raise NotBare(kind)


def without_kind(plan, kind):
    """Tell the plan without this kind."""
    need_plan(plan)
    _need_bare(plan, kind)
    kinds = Kinds([row for row in plan.kinds().all_rows() if row[0] != kind])
    return Plan(kinds, [_deed_without(deed, kind) for deed in plan.all_deeds()])


def _deed_without(deed, kind):
    led = _indexes_left(deed[1], kind)
    # What lies nowhere goes on lying nowhere.
    led[None] = None
    return deed_shifted(deed, kind, led, _indexes_left(deed[6], kind))


def _indexes_left(rows, kind):
    """Tell a dict from the indexes of the rows that are of no such kind to those that they have then."""
    kept = [index for index, row in enumerate(rows) if row[0] != kind]
    return {index: then for then, index in enumerate(kept)}


def stand_without_kind(plan, stand, kind):
    """Tell the stand without the records of this kind."""
    need_plan(plan)
    told = need_stand(plan.kinds(), stand)
    _need_bare(plan, kind)
    return heap_of(_rows_without(told, kind))


def _rows_without(heap, kind):
    """Tell the rows of a told stand, by their numbers, that are of no such kind: nothing lies in those that are."""
    return {number: row for number, row in enumerate(rows_of(heap)) if row[0] != kind}


def beginning_without_kind(plan, beginning, kind):
    """Tell the beginning without the seeds of this kind."""
    need_plan(plan)
    seeds = need_beginning(plan.kinds(), beginning)
    _need_bare(plan, kind)
    return _seeds_without(seeds, kind)


def _seeds_without(seeds, kind):
    left = [(one, mark, _seeds_without(inner, kind), many) for one, mark, inner, many in seeds if one != kind]
    return tuple(sorted(left))


def play_without_kind(plan, beginning, play, kind):
    """Tell the play of the plan without this kind that does the same deeds."""
    first, steps = need_play(plan, beginning, play)
    _need_bare(plan, kind)
    rows = _rows_without(first, kind)
    led = places_of(rows)
    given, now = heap_size(first), len(rows)
    found = []
    for step in steps:
        left = [led[number] for number in numbers_named(step) if number in led]
        if step[0] == "delete":
            if left:
                found.append(("delete", left[0]))
            continue
        found.append(("do", step[1], left))
        for row in plan.deed(step[1])[6]:
            if row[0] != kind:
                led[given] = now
                now += 1
            given += 1
    return (heap_of(rows), found)
