"""Crowds: so many of one sort in one, and how many there are at most."""

from anywithin.anyof import any_verdict
from anywithin.errors import BadNumber
from anywithin.kinds import need_kinds
from anywithin.plays import need_seeds
from anywithin.refusals import BadHolder, BadLimit, BadPart
from anywithin.sorts import held, is_sort
from anywithin.words import is_number


def crowds(kinds, holder, part, number):
    """Tell the stands of so many of part in one of holder, at the top for None, ascending."""
    _need_sorts(kinds, holder, part)
    _need_many(number)
    return _crowds(kinds, holder, part, number)


def _crowds(kinds, holder, part, number):
    parts = ((part[0], part[1], ()),) * number
    if holder is None:
        return [parts]
    return held(kinds, kinds.above(holder[0]), ((holder[0], holder[1], parts),))


def _need_sorts(kinds, holder, part):
    """Refuse kinds, holder, or part."""
    need_kinds(kinds)
    if holder is not None and not is_sort(kinds, holder):
        raise BadHolder(holder)
    above = "" if holder is None else holder[0]
    if not is_sort(kinds, part) or kinds.above(part[0]) != above:
        raise BadPart(part)


def _need_many(number):
    if not is_number(number) or number == 0:
        raise BadNumber(number)


def crowd_verdict(plan, beginning, holder, part, number):
    """Tell any_verdict of the crowds."""
    need_seeds(plan, beginning)
    _need_sorts(plan.kinds(), holder, part)
    _need_many(number)
    return any_verdict(plan, beginning, _crowds(plan.kinds(), holder, part, number))


def most_of(plan, beginning, holder, part, limit):
    """Tell (k, wall): never more than k of part are in one of holder; or (None, play) of one with more than limit."""
    need_seeds(plan, beginning)
    _need_sorts(plan.kinds(), holder, part)
    if not is_number(limit):
        raise BadLimit(limit)
    play = None
    for most in range(limit + 1):
        word, shown = any_verdict(plan, beginning, _crowds(plan.kinds(), holder, part, most + 1))
        if word == "never":
            return (most, shown)
        play = shown
    return (None, play)
