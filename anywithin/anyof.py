"""Any of many stands: a play that brings one of them, or one wall for all."""

from anywithin.barriers import barrier_fault, form_index
from anywithin.fitting import fits_in
from anywithin.leading import backs_of, verdict_of
from anywithin.least import need_stands
from anywithin.overlays import overlays_told
from anywithin.plays import ends, is_play, need_asked, need_seeds
from anywithin.stands import need_mate_stand
from anywithin.trees import told_heap
from anywithin.words import is_list_of, is_one_of


def any_verdict(plan, beginning, stands):
    """Tell ("told", play) of a play that brings one of stands, or ("never", wall) of the least wall for all."""
    seeds = need_seeds(plan, beginning)
    heaps = need_stands(plan.kinds(), stands)
    return verdict_of(plan, backs_of(plan), seeds, heaps)


def any_judged(plan, beginning, stands, thing):
    """Tell "told" or "never" of any object that shows that one can come, or that none ever does, None of all else."""
    seeds = need_seeds(plan, beginning)
    heaps = need_stands(plan.kinds(), stands)
    if not is_list_of(thing, 2) or not is_one_of(thing[0], ["told", "never"]):
        return None
    word, shown = thing
    if word == "told":
        if not is_play(plan, beginning, shown):
            return None
        end = ends(plan, beginning, shown)
        return "told" if any([fits_in(heap, end) for heap in heaps]) else None
    if form_index(plan.kinds(), shown) is not None:
        return None
    fault = barrier_fault(backs_of(plan), seeds, heaps, [told_heap(stand) for stand in shown])
    return "never" if fault is None else None


def both_verdict(plan, beginning, asked, mate):
    """Tell any_verdict of the least stands in which both lie."""
    told = need_asked(plan, beginning, asked)
    return any_verdict(plan, beginning, overlays_told(told, need_mate_stand(plan.kinds(), mate)))
