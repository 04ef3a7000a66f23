"""Asks: which of them are needed so that what is asked never comes."""

from anywithin.leading import Backs, comes, verdict_of
from anywithin.plans import need_plan, without_ask
from anywithin.plays import need_asked, need_seeds
from anywithin.refusals import NotKept


def asks_of(plan):
    """Tell the pairs (name, index) of all asks, ascending."""
    need_plan(plan)
    return [(deed[0], index) for deed in plan.all_deeds() for index in range(len(deed[2]))]


def ask_verdict(plan, beginning, asked, name, index):
    """Tell the verdict by the plan without this ask, if the plan keeps asked."""
    backs = Backs()
    told = _need_kept(plan, beginning, asked, backs)
    less = without_ask(plan, name, index)
    return verdict_of(less, backs.of_plan(less), need_seeds(plan, beginning), [told])


def needed_asks(plan, beginning, asked):
    """Tell the asks without each of which, alone, asked can come."""
    backs = Backs()
    told = _need_kept(plan, beginning, asked, backs)
    seeds = need_seeds(plan, beginning)
    return [(name, index) for name, index in asks_of(plan) if _is_needed(plan, backs, seeds, told, name, index)]


def without_idle(plan, beginning, asked):
    """Tell the plan that is left if each ask, the last one of a deed first, goes that is idle in what is left."""
    backs = Backs()
    told = _need_kept(plan, beginning, asked, backs)
    seeds = need_seeds(plan, beginning)
    left = plan
    for deed in plan.all_deeds():
        for index in reversed(range(len(deed[2]))):
            if not _is_needed(left, backs, seeds, told, deed[0], index):
                left = without_ask(left, deed[0], index)
    return left


def _is_needed(plan, backs, seeds, told, name, index):
    return comes(backs.of_plan(without_ask(plan, name, index)), seeds, [told])


def _need_kept(plan, beginning, asked, backs):
    """Tell the told form of asked, or refuse one of the three, or what the plan does not keep."""
    told = need_asked(plan, beginning, asked)
    if comes(backs.of_plan(plan), need_seeds(plan, beginning), [told]):
        raise NotKept(asked)
    return told
