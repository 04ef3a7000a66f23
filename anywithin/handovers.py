"""Handovers: one plan works first, from one moment on another one."""

from anywithin.barriers import barrier_fault, form_index
from anywithin.fitting import fits_in
from anywithin.grounds import Ground
from anywithin.leading import Leading, backs_of, first_beginning, way_done
from anywithin.plays import is_play, need_asked, need_seeds, played, step_fault
from anywithin.trees import told_heap
from anywithin.twoplans import need_newer
from anywithin.words import is_list, is_list_of, is_one_of


def handover(plan, newer, beginning, asked):
    """Tell ("told", a handover that brings asked), or ("never", (wall, later)) of the least walls."""
    need_newer(plan, newer)
    told = need_asked(plan, beginning, asked)
    last = Leading(backs_of(newer), [told])
    later = last.rounds()[-1]
    leading = Leading(backs_of(plan), later)
    found = first_beginning(leading, need_seeds(plan, beginning))
    if found is None:
        return ("never", (leading.rounds()[-1], later))
    first = found[1]
    ground = Ground(plan, first)
    steps, reached = way_done(ground, leading, first)
    behind, _ = way_done(ground.handed(newer), last, reached)
    return ("told", (first, steps, behind))


def handover_judged(plan, newer, beginning, asked, thing):
    """Tell "told" or "never" of any object that shows that asked comes handed over, or never, None of all else."""
    need_newer(plan, newer)
    told = need_asked(plan, beginning, asked)
    if not is_list_of(thing, 2) or not is_one_of(thing[0], ["told", "never"]):
        return None
    word, shown = thing
    if word == "told":
        return "told" if _is_handover(plan, newer, beginning, told, shown) else None
    return "never" if _are_walls(plan, newer, need_seeds(plan, beginning), told, shown) else None


def _is_handover(plan, newer, beginning, told, thing):
    """Tell whether any object is a handover behind which a told stand stands."""
    if not is_list_of(thing, 3) or not is_list(thing[2]):
        return False
    first, steps, later = thing
    if not is_play(plan, beginning, (first, steps)):
        return False
    ground = played(plan, beginning, (first, steps)).handed(newer)
    for step in later:
        if step_fault(ground, step) is not None:
            return False
    return fits_in(told, ground.stand())


def _are_walls(plan, newer, seeds, told, thing):
    """Tell whether any object is a wall of two for a told stand."""
    if not is_list_of(thing, 2) or any([form_index(plan.kinds(), stands) is not None for stands in thing]):
        return False
    heaps, later = [[told_heap(stand) for stand in stands] for stands in thing]
    # A stand of later that begins has one of the wall in it, which begins, too: so it does no harm to ask of both.
    if barrier_fault(backs_of(newer), seeds, [told], later) is not None:
        return False
    return barrier_fault(backs_of(plan), seeds, later, heaps) is None
