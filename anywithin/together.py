"""Two sorts together: within, beside, or anywhere."""

from anywithin.anyof import any_verdict
from anywithin.errors import BadOther
from anywithin.kinds import need_kinds
from anywithin.least import least_told
from anywithin.overlays import overlays_told
from anywithin.plays import need_seeds
from anywithin.refusals import BadHow, BadOne
from anywithin.sorts import held, is_sort


def meetings(kinds, one, other, how):
    """Tell the least stands in which one of each sort stand as how says, ascending."""
    need_kinds(kinds)
    if not is_sort(kinds, one):
        raise BadOne(one)
    if not is_sort(kinds, other):
        raise BadOther(other)
    above = kinds.above(one[0])
    mine, theirs = (one[0], one[1], ()), (other[0], other[1], ())
    if not isinstance(how, str):
        raise BadHow(how)
    if how == "within" and above == other[0]:
        return held(kinds, kinds.above(above), ((above, other[1], (mine,)),))
    if how == "beside" and above == kinds.above(other[0]):
        return held(kinds, above, tuple(sorted([mine, theirs])))
    if how == "anywhere":
        return _anywhere(held(kinds, above, (mine,)), held(kinds, kinds.above(other[0]), (theirs,)))
    raise BadHow(how)


def _anywhere(heaps, mates):
    """Tell the least stands in which one of heaps and one of mates lie."""
    return least_told([both for heap in heaps for mate in mates for both in overlays_told(heap, mate)])


def together(plan, beginning, one, other, how):
    """Tell any_verdict of the stands in which one of each sort stand as how says."""
    need_seeds(plan, beginning)
    return any_verdict(plan, beginning, meetings(plan.kinds(), one, other, how))
