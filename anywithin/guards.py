"""Guards: the least lots of a menu of asks that keep what is asked from coming."""

from anywithin.deeds import is_ask, told_ask
from anywithin.leading import Backs, backs_of, comes, verdict_of
from anywithin.lotting import is_lot, least_lots, pair_fault
from anywithin.plans import need_plan, with_ask
from anywithin.plays import need_asked, need_seeds
from anywithin.refusals import BadLot, BadMenu
from anywithin.words import is_list, is_list_of, is_one_of


def guarded(plan, menu, lot):
    """Tell the plan with these asks of menu put at the end of their deeds' asks."""
    need_plan(plan)
    asks = _need_menu(plan, menu)
    _need_lot(asks, lot)
    return _guarded(plan, asks, lot)


def _guarded(plan, asks, lot):
    """Tell the plan with these asks, by their indexes in a told menu."""
    more = plan
    for index in lot:
        name, ask = asks[index]
        more = with_ask(more, name, ask)
    return more


def _need_menu(plan, menu):
    """Tell the told form of menu, or refuse it."""
    if not is_list(menu):
        raise BadMenu(0)
    deeds = {deed[0]: deed for deed in plan.all_deeds()}
    asks = {}
    for index, thing in enumerate(menu):
        if not is_list_of(thing, 2) or not is_one_of(thing[0], deeds):
            raise BadMenu(index)
        name, ask = thing
        if not is_ask(plan.kinds(), deeds[name][1], ask) or (name, told_ask(ask)) in asks:
            raise BadMenu(index)
        asks[(name, told_ask(ask))] = index
    return list(asks)


def _need_lot(asks, lot):
    if not is_lot(list(range(len(asks))), lot):
        raise BadLot(lot)


def guard_verdict(plan, beginning, asked, menu, lot):
    """Tell the verdict by the plan with these asks of menu."""
    told = need_asked(plan, beginning, asked)
    asks = _need_menu(plan, menu)
    _need_lot(asks, lot)
    more = _guarded(plan, asks, lot)
    return verdict_of(more, backs_of(more), need_seeds(plan, beginning), [told])


def least_guards(plan, beginning, asked, menu):
    """Tell all lots that keep asked while no lesser part of them does, ascending."""
    guards, _ = _guards_and_openings(plan, beginning, asked, menu)
    return guards


def least_openings(plan, beginning, asked, menu):
    """Tell all lots without which the rest of menu lets asked come while it does not without less, ascending."""
    _, openings = _guards_and_openings(plan, beginning, asked, menu)
    return openings


def _guards_and_openings(plan, beginning, asked, menu):
    told = need_asked(plan, beginning, asked)
    asks = _need_menu(plan, menu)
    seeds = need_seeds(plan, beginning)
    backs = Backs()
    indexes = list(range(len(asks)))
    return least_lots(indexes, lambda lot: not comes(backs.of_plan(_guarded(plan, asks, lot)), seeds, [told]))


def is_least_guard(plan, beginning, asked, menu, thing):
    """Tell whether any object is one of the least lots that keep asked."""
    guards = least_guards(plan, beginning, asked, menu)
    return is_lot(list(range(len(menu))), thing) and list(thing) in guards


def guards_fault(plan, beginning, asked, menu, thing):
    """Tell what is first wrong in any object, None for the pair of the least guards and the least openings."""
    guards, openings = _guards_and_openings(plan, beginning, asked, menu)
    return pair_fault(list(range(len(menu))), thing, guards, openings, ("guards", "openings"))
