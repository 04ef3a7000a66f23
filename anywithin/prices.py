"""Prices of lots of deeds."""

from anywithin.leading import backs_of, comes
from anywithin.lots import bringing_and_barring, names_of
from anywithin.plans import need_name_list
from anywithin.plays import need_asked, need_seeds
from anywithin.refusals import BadPrices
from anywithin.words import is_number, is_one_of


def cheapest_bar(plan, beginning, asked, prices):
    """Tell (price, lot) of the cheapest lot that bars asked, None if there is none."""
    need_asked(plan, beginning, asked)
    _need_prices(plan, prices)
    _, barring = bringing_and_barring(plan, beginning, asked)
    return _cheapest(barring, prices)


def cheapest_way(plan, beginning, asked, prices):
    """Tell (price, lot) of the cheapest lot that brings asked, None if there is none."""
    need_asked(plan, beginning, asked)
    _need_prices(plan, prices)
    bringing, _ = bringing_and_barring(plan, beginning, asked)
    return _cheapest(bringing, prices)


def _need_prices(plan, prices):
    names = names_of(plan)
    if not isinstance(prices, dict) or len(prices) != len(names):
        raise BadPrices(prices)
    # Other keys could be anything, so each key is asked whether it is a name, not the other way about.
    if not all([is_one_of(name, names) for name in prices]):
        raise BadPrices(prices)
    if not all([is_number(price) for price in list(prices.values())]):
        raise BadPrices(prices)


def _cheapest(lots, prices):
    priced = [(sum([prices[name] for name in lot]), lot) for lot in lots]
    return min(priced) if priced else None


def barred_by(plan, beginning, asked, names):
    """Tell of how many of names, from the first one on, the lot bars asked, None if not even all of them do."""
    told = need_asked(plan, beginning, asked)
    need_name_list(plan, names)
    seeds = need_seeds(plan, beginning)
    backs = backs_of(plan)
    for many in range(len(names) + 1):
        if not comes([back for back in backs if back.deed_name() not in names[:many]], seeds, [told]):
            return many
    return None
