"""Rounds: the least stands from which what is asked can come by so many deeds, and by how few."""

from anywithin.errors import BadAsked, BadMany
from anywithin.leading import Leading, backs_of, first_beginning, play_from
from anywithin.least import is_above_told
from anywithin.plans import need_plan
from anywithin.plays import need_asked, need_seeds
from anywithin.refusals import BadOtherAsked
from anywithin.stands import is_stand, need_stand, stand_index
from anywithin.trees import told_heap
from anywithin.words import is_list, is_number


def round_of(plan, asked, many):
    """Tell the round with this number, ascending."""
    told = _need_plan_asked(plan, asked)
    if not is_number(many):
        raise BadMany(many)
    leading = Leading(backs_of(plan), [told])
    found = leading.round_at(many)
    return leading.rounds()[-1] if found is None else found


def rounds(plan, asked):
    """Tell all rounds, up to the first one that equals the next one."""
    told = _need_plan_asked(plan, asked)
    return Leading(backs_of(plan), [told]).rounds()


def least_leading(plan, asked):
    """Tell the least stands from which what is asked can come at all, ascending."""
    return rounds(plan, asked)[-1]


def _need_plan_asked(plan, asked):
    """Tell the told form of asked, or refuse plan or asked."""
    need_plan(plan)
    index = stand_index(plan.kinds(), asked)
    if index is not None:
        raise BadAsked(index)
    return told_heap(asked)


def soonest(plan, asked, stand):
    """Tell by how few deeds what is asked comes from stand, None if it never does."""
    told = _need_plan_asked(plan, asked)
    there = need_stand(plan.kinds(), stand)
    leading = Leading(backs_of(plan), [told])
    many = 0
    heaps = leading.round_at(many)
    while heaps is not None and not is_above_told(heaps, there):
        many += 1
        heaps = leading.round_at(many)
    return None if heaps is None else many


def fewest_deeds(plan, beginning, asked):
    """Tell by how few deeds what is asked comes from beginning, None if it never does."""
    told = need_asked(plan, beginning, asked)
    seeds = need_seeds(plan, beginning)
    found = first_beginning(Leading(backs_of(plan), [told]), seeds)
    return None if found is None else found[0]


def shortest_play(plan, beginning, asked):
    """Tell a play with the fewest deeds that brings what is asked, None if it never comes."""
    told = need_asked(plan, beginning, asked)
    seeds = need_seeds(plan, beginning)
    leading = Leading(backs_of(plan), [told])
    found = first_beginning(leading, seeds)
    return None if found is None else play_from(plan, leading, found[1])


def rounds_fault(plan, asked, thing):
    """Tell what is first wrong in any object, None for the rounds."""
    right = rounds(plan, asked)
    if not is_list(thing) or len(thing) == 0:
        return ("form", 0)
    for index, heaps in enumerate(thing):
        if not is_list(heaps) or not all([is_stand(plan.kinds(), heap) for heap in heaps]):
            return ("form", index)
    for index, heaps in enumerate(thing):
        # Behind the last one all rounds are alike.
        wanted = right[min(index, len(right) - 1)]
        fault = _round_fault(index, sorted([told_heap(heap) for heap in heaps]), wanted)
        if fault is not None:
            return fault
    return None if len(thing) == len(right) else ("more", len(thing))


def _round_fault(index, heaps, wanted):
    """Tell what is first wrong in a list of told stands, ascending, None if it is the round that is wanted."""
    for heap in heaps:
        if not is_above_told(wanted, heap):
            return ("above", index, heap)
    for heap in wanted:
        if not is_above_told(heaps, heap):
            return ("below", index, heap)
    # Now each one wanted stands there, so any more is alike to one of them, or above it.
    return None if heaps == wanted else ("alike", index)


def same_leading(plan, asked, other_asked):
    """Tell whether the same stands let both come."""
    mine, theirs = _both_leading(plan, asked, other_asked)
    return mine == theirs


def leads_too(plan, asked, other_asked):
    """Tell whether each stand from which the other one comes lets this one come, too."""
    mine, theirs = _both_leading(plan, asked, other_asked)
    return all([is_above_told(mine, heap) for heap in theirs])


def _both_leading(plan, asked, other_asked):
    """Tell the least lists of both, or refuse the first of the three that is wrong."""
    told = _need_plan_asked(plan, asked)
    index = stand_index(plan.kinds(), other_asked)
    if index is not None:
        raise BadOtherAsked(index)
    backs = backs_of(plan)
    return Leading(backs, [told]).rounds()[-1], Leading(backs, [told_heap(other_asked)]).rounds()[-1]
