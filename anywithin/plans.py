"""Plans: books of deeds."""

from anywithin.deeds import deed_called, is_ask, is_deed, told_ask, told_deed
from anywithin.errors import BadAsk, BadDeeds, BadIndex, BadName, BadNameList, BadOther, BadPlan
from anywithin.kinds import kinds_called, need_kinds
from anywithin.words import is_index, is_list, is_one_of


class Plan:
    """Kinds, and the deeds that may be done with records of these."""

    def __init__(self, kinds, deeds):
        need_kinds(kinds)
        index = _deeds_fault(kinds, deeds)
        if index is not None:
            raise BadDeeds(index)
        told = {deed[0]: told_deed(deed) for deed in deeds}
        self._kinds = kinds
        self._deeds = {name: told[name] for name in sorted(told)}

    def __eq__(self, other):
        return isinstance(other, Plan) and self._kinds == other._kinds and self._deeds == other._deeds

    def kinds(self):
        """Tell the kinds."""
        return self._kinds

    def all_deeds(self):
        """Tell all deeds, names ascending."""
        # Turns are dicts: they are made anew, so that no caller can change the plan.
        return [told_deed(deed) for deed in list(self._deeds.values())]

    def deed(self, name):
        """Tell the deed with this name."""
        if not is_one_of(name, self._deeds):
            raise BadName(name)
        return told_deed(self._deeds[name])


def _deeds_fault(kinds, deeds):
    """Tell the index of the first wrong deed, 0 for no list, None if all are right."""
    if not is_list(deeds):
        return 0
    seen = {}
    for index, deed in enumerate(deeds):
        if not is_deed(kinds, deed) or deed[0] in seen:
            return index
        seen[deed[0]] = True
    return None


def need_plan(plan):
    """Refuse what is no Plan."""
    if not isinstance(plan, Plan):
        raise BadPlan(plan)


def is_less(plan, other):
    """Tell whether each deed of plan is the like one of other, but perhaps with more asks."""
    need_plan(plan)
    if not isinstance(other, Plan) or plan.kinds() != other.kinds():
        raise BadOther(other)
    theirs = {deed[0]: deed for deed in other.all_deeds()}
    return all([deed[0] in theirs and _asks_more(deed, theirs[deed[0]]) for deed in plan.all_deeds()])


def _asks_more(deed, other):
    """Tell whether a deed is another one of its name, but perhaps with more asks."""
    if deed[1] != other[1] or deed[3:] != other[3:]:
        return False
    held = 0
    for ask in deed[2]:
        if held < len(other[2]) and ask == other[2][held]:
            held += 1
    return held == len(other[2])


def without_deeds(plan, names):
    """Tell the plan without the deeds of these names."""
    need_plan(plan)
    need_name_list(plan, names)
    return Plan(plan.kinds(), [deed for deed in plan.all_deeds() if deed[0] not in names])


def need_name_list(plan, names):
    """Refuse what is no list of unlike names of the plan's deeds."""
    known = [deed[0] for deed in plan.all_deeds()]
    if not is_list(names):
        raise BadNameList(0)
    seen = {}
    for index, name in enumerate(names):
        if not is_one_of(name, known) or name in seen:
            raise BadNameList(index)
        seen[name] = True


def without_ask(plan, name, index):
    """Tell the plan without this ask of this deed."""
    need_plan(plan)
    asks = plan.deed(name)[2]
    if not is_index(index, len(asks)):
        raise BadIndex(index)
    return _with_asks(plan, name, [*asks[:index], *asks[index + 1:]])


def with_ask(plan, name, ask):
    """Tell the plan with one ask more at the end of this deed's."""
    need_plan(plan)
    deed = plan.deed(name)
    if not is_ask(plan.kinds(), deed[1], ask):
        raise BadAsk(ask)
    return _with_asks(plan, name, [*deed[2], told_ask(ask)])


def _with_asks(plan, name, asks):
    """Tell the plan with these asks in the place of this deed's."""
    deeds = []
    for deed in plan.all_deeds():
        deeds.append((name, deed[1], asks, *deed[3:]) if deed[0] == name else deed)
    return Plan(plan.kinds(), deeds)


def plan_called(plan, names):
    """Tell the plan whose kinds and marks are called as names say, deeds with their own names."""
    need_plan(plan)
    kinds = kinds_called(plan.kinds(), names)
    return Plan(kinds, [deed_called(deed, names) for deed in plan.all_deeds()])
