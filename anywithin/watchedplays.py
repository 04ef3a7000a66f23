"""Plays of watched plans: with figures behind the marks of the watched kind, and without."""

from anywithin.errors import BadNumber
from anywithin.lives import life_of
from anywithin.plays import need_play, need_seeds
from anywithin.steps import led_over, numbers_named
from anywithin.trees import heap_of, places_of, rows_of
from anywithin.watchers import born_mark, need_watcher, state_then, watched, watched_beginning
from anywithin.words import is_index


def watched_play(plan, beginning, kind, watcher, play):
    """Tell the play of the watched plan that has the same steps."""
    need_seeds(plan, beginning)
    need_watcher(plan, kind, watcher)
    told = need_play(plan, beginning, play)
    return _with_marks(told, kind, lambda mark: born_mark(watcher, mark))


def unwatched_play(plan, beginning, kind, watcher, play):
    """Tell the play of plan that has the same steps as one of the watched plan."""
    need_seeds(plan, beginning)
    need_watcher(plan, kind, watcher)
    more = watched(plan, kind, watcher)
    told = need_play(more, watched_beginning(plan, kind, watcher, beginning), play)
    return _with_marks(told, kind, lambda mark: mark[:-1])


def _with_marks(play, kind, lead):
    """Tell a told play with the marks of this kind, in its first stand, led by lead, and its numbers led over."""
    first, steps = play
    rows = {}
    for number, (one, mark, holder) in enumerate(rows_of(first)):
        rows[number] = (one, lead(mark) if one == kind else mark, holder)
    led = places_of(rows)
    # Just as many are given as ahead, so records that are made have the numbers that they had.
    for step in steps:
        for number in numbers_named(step):
            led.setdefault(number, number)
    return (heap_of(rows), [led_over(step, led) for step in steps])


def state_behind(plan, beginning, kind, watcher, play, number):
    """Tell the state of a record behind the play, None if it is gone."""
    need_seeds(plan, beginning)
    need_watcher(plan, kind, watcher)
    given = _kinds_given(plan, need_play(plan, beginning, play))
    if not is_index(number, len(given)) or given[number] != kind:
        raise BadNumber(number)
    ahead, state = None, None
    for _, mark, _ in life_of(plan, beginning, play, number):
        if mark is None:
            return None
        if ahead is None:
            state = watcher[0][mark]
        elif mark != ahead:
            state = state_then(watcher, state, mark)
        ahead = mark
    return state


def _kinds_given(plan, play):
    """Tell the kind of each number that a told play gives, in order."""
    first, steps = play
    found = [row[0] for row in rows_of(first)]
    for step in steps:
        if step[0] == "do":
            found.extend([row[0] for row in plan.deed(step[1])[6]])
    return found
