"""Two plans of the same kinds: which one is narrower, and both side by side."""

from anywithin.plans import Plan, need_plan
from anywithin.refusals import BadNewer, Clash


def need_newer(plan, newer):
    """Refuse plan, or what is no plan of the same kinds."""
    need_plan(plan)
    if not isinstance(newer, Plan) or newer.kinds() != plan.kinds():
        raise BadNewer(newer)


def is_narrower(plan, newer):
    """Tell whether each deed of plan is narrower than the one of newer with its name, or like it."""
    return first_wider(plan, newer) is None


def first_wider(plan, newer):
    """Tell the first name of a deed of plan that is not narrower than the one of newer, None if there is none."""
    need_newer(plan, newer)
    theirs = _deeds_by_name(newer)
    for deed in plan.all_deeds():
        if deed[0] not in theirs or not _is_narrower_deed(deed, theirs[deed[0]]):
            return deed[0]
    return None


def _deeds_by_name(plan):
    return {deed[0]: deed for deed in plan.all_deeds()}


def _is_narrower_deed(deed, other):
    """Tell whether a told deed is narrower than another one of its name, or like it."""
    if len(deed[1]) != len(other[1]) or deed[3:] != other[3:]:
        return False
    if not all([_is_narrower_row(row, wide) for row, wide in zip(deed[1], other[1])]):
        return False
    return all([any([_asks_for(ask, wide) for ask in deed[2]]) for wide in other[2]])


def _is_narrower_row(row, other):
    """Tell whether a row of who is another one, but perhaps with fewer marks."""
    kind, lies, turn = row
    if (kind, lies) != (other[0], other[1]):
        return False
    return all([mark in other[2] and other[2][mark] == turn[mark] for mark in turn])


def _asks_for(ask, other):
    """Tell whether an ask lets nothing by that another one, of the same place and kind, does not."""
    place, kind, marks = ask
    return (place, kind) == (other[0], other[1]) and all([mark in other[2] for mark in marks])


def both_plans(plan, newer):
    """Tell the plan of all deeds of both, of two with one name the wider one."""
    need_newer(plan, newer)
    deeds = _deeds_by_name(plan)
    for deed in newer.all_deeds():
        name = deed[0]
        if name not in deeds or _is_narrower_deed(deeds[name], deed):
            deeds[name] = deed
        elif not _is_narrower_deed(deed, deeds[name]):
            raise Clash(name)
    return Plan(plan.kinds(), list(deeds.values()))
