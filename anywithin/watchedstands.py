"""Stands of watched plans: what records are, and have been."""

from anywithin.stands import need_stand
from anywithin.trees import told_heap
from anywithin.watchers import figured, kinds_watched, many_states, need_watcher
from anywithin.words import each_once


def unwatched(plan, kind, watcher, stand):
    """Tell a stand of the watched kinds without its figures."""
    need_watcher(plan, kind, watcher)
    return told_heap(_without_figures(kind, need_stand(kinds_watched(plan, kind, watcher), stand)))


def _without_figures(kind, heap):
    return [
        (one, mark[:-1] if one == kind else mark, _without_figures(kind, parts)) for one, mark, parts in heap
    ]


def watched_stands(plan, kind, watcher, stand):
    """Tell all stands of the watched kinds that are stand without their figures, ascending."""
    need_watcher(plan, kind, watcher)
    return _with_figures(kind, many_states(watcher), need_stand(plan.kinds(), stand))


def _with_figures(kind, many, heap):
    """Tell all told heaps that a told one can be with figures, ascending."""
    found = [()]
    for record in heap:
        records = _records_with_figures(kind, many, record)
        # Alike heaps are laid together at once, so that they are not made longer each by itself.
        found = each_once([tuple(sorted([*ahead, one])) for ahead in found for one in records])
    return found


def _records_with_figures(kind, many, record):
    one, mark, parts = record
    marks = [figured(mark, state) for state in range(many)] if one == kind else [mark]
    return [(one, there, heap) for there in marks for heap in _with_figures(kind, many, parts)]
