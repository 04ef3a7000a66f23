"""Lots of deeds: by which what is asked comes, and without which it never does."""

from anywithin.leading import backs_of, comes, verdict_of
from anywithin.lotting import is_lot, least_lots, pair_fault
from anywithin.plans import Plan
from anywithin.plays import need_asked, need_seeds
from anywithin.refusals import BadLot


def names_of(plan):
    """Tell the names of the plan's deeds, ascending."""
    return [deed[0] for deed in plan.all_deeds()]


def _plan_of(plan, lot):
    """Tell the plan of these deeds alone."""
    return Plan(plan.kinds(), [plan.deed(name) for name in lot])


def lot_verdict(plan, beginning, asked, lot):
    """Tell the verdict by the plan of these deeds alone."""
    told = need_asked(plan, beginning, asked)
    if not is_lot(names_of(plan), lot):
        raise BadLot(lot)
    less = _plan_of(plan, lot)
    return verdict_of(less, backs_of(less), need_seeds(plan, beginning), [told])


def bringing_and_barring(plan, beginning, asked):
    """Tell the least lots that bring asked, and the least lots that bar it, both ascending."""
    told = need_asked(plan, beginning, asked)
    seeds = need_seeds(plan, beginning)
    backs = {back.deed_name(): back for back in backs_of(plan)}
    return least_lots(names_of(plan), lambda lot: comes([backs[name] for name in lot], seeds, [told]))


def bringing_lots(plan, beginning, asked):
    """Tell all lots that bring asked while no lesser part of them does, ascending."""
    bringing, _ = bringing_and_barring(plan, beginning, asked)
    return bringing


def barring_lots(plan, beginning, asked):
    """Tell all lots without whose deeds asked never comes while it does without less, ascending."""
    _, barring = bringing_and_barring(plan, beginning, asked)
    return barring


def is_bringing_lot(plan, beginning, asked, thing):
    """Tell whether any object is one of the least lots that bring asked."""
    bringing = bringing_lots(plan, beginning, asked)
    return is_lot(names_of(plan), thing) and list(thing) in bringing


def is_barring_lot(plan, beginning, asked, thing):
    """Tell whether any object is one of the least lots that bar asked."""
    barring = barring_lots(plan, beginning, asked)
    return is_lot(names_of(plan), thing) and list(thing) in barring


def lots_fault(plan, beginning, asked, thing):
    """Tell what is first wrong in any object, None for the pair of the bringing and the barring lots."""
    bringing, barring = bringing_and_barring(plan, beginning, asked)
    return pair_fault(names_of(plan), thing, bringing, barring, ("bringing", "barring"))


def needed_deeds(plan, beginning, asked):
    """Tell the lot of the deeds without each of which, alone, asked never comes."""
    bringing = bringing_lots(plan, beginning, asked)
    return [name for name in names_of(plan) if all([name in lot for lot in bringing])]


def idle_deeds(plan, beginning, asked):
    """Tell the lot of the deeds that are in no least lot that brings asked."""
    bringing = bringing_lots(plan, beginning, asked)
    return [name for name in names_of(plan) if not any([name in lot for lot in bringing])]
