"""Back from some stands, one deed at a time: the least stands from which one of them can come."""

from anywithin.backs import Back
from anywithin.beneath import Beneath
from anywithin.choosing import numbers_leading
from anywithin.clearings import do_cleared
from anywithin.grounds import Ground
from anywithin.least import least_told
from anywithin.sowings import is_sown
from anywithin.standing import standing


class Leading:
    """The rounds back from some told stands by some deeds, each worked out when it is first asked for."""

    def __init__(self, backs, heaps):
        self._backs = backs
        self._rounds = [least_told(heaps)]
        self._fresh = list(self._rounds[0])
        # From a stand, as it is written, to the deed, and to the stand of the round ahead, by which it came in.
        self._ways = {}

    def rounds(self):
        """Tell all rounds, up to the first one that equals the next one."""
        while self._fresh:
            self._go_on()
        return [list(heaps) for heaps in self._rounds]

    def round_at(self, many):
        """Tell the round with this number, None if an earlier one equals all later ones."""
        while self._fresh and len(self._rounds) <= many:
            self._go_on()
        return list(self._rounds[many]) if many < len(self._rounds) else None

    def _go_on(self):
        last = self._rounds[-1]
        beneath = Beneath(last)
        found = []
        for heap in self._fresh:
            for back in self._backs:
                for before in back.befores(heap):
                    if not beneath.has_above(before):
                        found.append(before)
                        self._ways.setdefault(repr(before), (back.deed_name(), heap))
        self._fresh = least_told(found)
        if found:
            beneath = Beneath(self._fresh)
            kept = [heap for heap in last if not beneath.has_above(heap)]
            self._rounds.append(sorted([*kept, *self._fresh]))

    def way(self, heap):
        """Tell (name, next): the deed that leads from a told stand of a round to one of the round ahead."""
        return self._ways.get(repr(heap))


class Backs:
    """Deeds of the same kinds read backwards, each but once, so that what was worked out of it serves other plans."""

    def __init__(self):
        self._kept = {}

    def of_plan(self, plan):
        """Tell the deeds of plan, read backwards, names ascending."""
        found = []
        for deed in plan.all_deeds():
            key = repr(deed)
            if key not in self._kept:
                self._kept[key] = Back(plan.kinds(), deed)
            found.append(self._kept[key])
        return found


def backs_of(plan):
    """Tell the deeds of one plan, read backwards, names ascending."""
    return Backs().of_plan(plan)


def first_beginning(leading, seeds):
    """Tell (number, stand) of the first round, and its first stand, that lies in told seeds, None if none does."""
    many = 0
    heaps = leading.round_at(many)
    while heaps is not None:
        for heap in heaps:
            if is_sown(seeds, heap):
                return (many, heap)
        many += 1
        heaps = leading.round_at(many)
    return None


def play_from(plan, leading, heap):
    """Tell the play that begins with a told stand of a round, and goes the way on which it came in."""
    steps, _ = way_done(Ground(plan, heap), leading, heap)
    return (heap, steps)


def way_done(ground, leading, heap):
    """Do on a ground, in which a told stand of a round lies, the deeds on the way on which it came in.

    Tell the steps that were done, and the stand of the first round that lies in the ground then.
    """
    steps = []
    at = heap
    way = leading.way(at)
    while way is not None:
        deed = ground.plan().deed(way[0])
        numbers = numbers_leading(deed, at, way[1])
        there = list(standing(at, ground).values())
        steps.extend(do_cleared(ground, deed, [there[number] for number in numbers]))
        at = way[1]
        way = leading.way(at)
    return steps, at


def comes(backs, seeds, heaps):
    """Tell whether one of some told stands can come from told seeds by these deeds."""
    return first_beginning(Leading(backs, heaps), seeds) is not None


def verdict_of(plan, backs, seeds, heaps):
    """Tell ("told", play) of a play that brings one of some told stands by these deeds, or ("never", wall)."""
    leading = Leading(backs, heaps)
    found = first_beginning(leading, seeds)
    if found is None:
        return ("never", leading.rounds()[-1])
    return ("told", play_from(plan, leading, found[1]))
