"""Walls: finite lists of stands that show that what is asked never comes."""

from anywithin.barriers import barrier_fault, form_index, needed_only, needs_of, still_holds
from anywithin.errors import BadOther
from anywithin.leading import backs_of
from anywithin.least import least_told
from anywithin.plans import Plan, need_plan
from anywithin.plays import need_asked, need_seeds
from anywithin.refusals import BadWall, BadWalls
from anywithin.stands import is_stand
from anywithin.trees import told_heap
from anywithin.words import is_list


def wall_fault(plan, beginning, asked, thing):
    """Tell what is first wrong in any object, None for a wall."""
    told = need_asked(plan, beginning, asked)
    index = form_index(plan.kinds(), thing)
    if index is not None:
        return ("form", index)
    seeds = need_seeds(plan, beginning)
    return barrier_fault(backs_of(plan), seeds, [told], [told_heap(stand) for stand in thing])


def is_barrier(plan, beginning, asked, thing):
    """Tell whether any object is a wall."""
    return wall_fault(plan, beginning, asked, thing) is None


def walls_laid(plan, walls):
    """Tell the least ones of all stands of all these lists, which is a wall for whatever they are walls for."""
    need_plan(plan)
    if not is_list(walls):
        raise BadWalls(0)
    for index, stands in enumerate(walls):
        if not is_list(stands) or not all([is_stand(plan.kinds(), stand) for stand in stands]):
            raise BadWalls(index)
    return least_told([told_heap(stand) for stands in walls for stand in stands])


def needless(plan, beginning, asked, wall):
    """Tell the indexes of the stands without which, each alone, the wall still is one."""
    told = _need_wall(plan, beginning, asked, wall)
    heaps = [told_heap(stand) for stand in wall]
    needs = needs_of(backs_of(plan), told, heaps)
    every = list(range(len(heaps)))
    return [index for index in every if still_holds(needs, [one for one in every if one != index])]


def wall_thinned(plan, beginning, asked, wall):
    """Tell the wall that is left if needless stands go, the last ones first, till none is."""
    told = _need_wall(plan, beginning, asked, wall)
    heaps = sorted([told_heap(stand) for stand in wall])
    needs = needs_of(backs_of(plan), told, heaps)
    return [heaps[index] for index in needed_only(needs, len(heaps))]


def _need_wall(plan, beginning, asked, wall):
    """Tell the told form of asked, or refuse the first of the four that is wrong."""
    told = need_asked(plan, beginning, asked)
    if not is_barrier(plan, beginning, asked, wall):
        raise BadWall(wall)
    return told


def walls_hold(plan, beginning, asked, wall, other):
    """Tell whether this wall is one of another plan of the same kinds, too."""
    _need_wall(plan, beginning, asked, wall)
    if not isinstance(other, Plan) or other.kinds() != plan.kinds():
        raise BadOther(other)
    return is_barrier(other, beginning, asked, wall)
