"""One deed back: whether a deed leads there, and the least stands from which it does."""

from anywithin.backs import Back
from anywithin.choosing import numbers_leading
from anywithin.errors import BadFirst
from anywithin.leading import backs_of
from anywithin.least import is_above_told
from anywithin.plans import need_plan
from anywithin.stands import is_stand, need_stand, stand_index
from anywithin.trees import told_heap
from anywithin.words import is_list


def leads(plan, name, first, stand):
    """Tell whether the deed leads from first to stand."""
    return numbers_to(plan, name, first, stand) is not None


def numbers_to(plan, name, first, stand):
    """Tell the least numbers by which the deed leads from first to stand, None if none do."""
    need_plan(plan)
    deed = plan.deed(name)
    told = need_first(plan, first)
    return numbers_leading(deed, told, need_stand(plan.kinds(), stand))


def need_first(plan, first):
    """Tell the told form of the stand ahead, or refuse it."""
    index = stand_index(plan.kinds(), first)
    if index is not None:
        raise BadFirst(index)
    return told_heap(first)


def least_before(plan, name, stand):
    """Tell the least stands from which the deed leads to stand, ascending."""
    need_plan(plan)
    deed = plan.deed(name)
    return Back(plan.kinds(), deed).least_befores(need_stand(plan.kinds(), stand))


def before_all(plan, stand):
    """Tell a dict from the names of all deeds, ascending, to the least stands before each."""
    need_plan(plan)
    told = need_stand(plan.kinds(), stand)
    return {back.deed_name(): back.least_befores(told) for back in backs_of(plan)}


def before_fault(plan, name, stand, thing):
    """Tell what is first wrong in any object, None for stands above just which the deed can lead to stand."""
    befores = least_before(plan, name, stand)
    if not is_list(thing) or not all([is_stand(plan.kinds(), one) for one in thing]):
        return ("form", 0)
    heaps = [told_heap(one) for one in thing]
    for index, heap in enumerate(heaps):
        if not is_above_told(befores, heap):
            return ("leads", index)
    for before in befores:
        if not is_above_told(heaps, before):
            return ("lacks", before)
    return None
