"""Watchers: what a record has been, told by a figure behind its mark."""

from anywithin.beginnings import need_beginning, told_seeds
from anywithin.errors import BadKind, BadOther
from anywithin.kinds import Kinds
from anywithin.plans import Plan, need_plan
from anywithin.refusals import BadWatcher
from anywithin.words import is_index, is_list_of, is_one_of

# A figure stands behind each mark, which is a name of eight signs at most then, too.
MOST_SIGNS = 7
MOST_STATES = 4


def is_watcher(plan, kind, thing):
    """Tell whether any object is a watcher of this kind."""
    _need_watched_kind(plan, kind)
    if not is_list_of(thing, 2):
        return False
    marks = plan.kinds().marks(kind)
    born, steps = thing
    return _is_born(marks, born) and _are_steps(marks, steps)


def _is_born(marks, thing):
    if not isinstance(thing, dict) or len(thing) != len(marks):
        return False
    return all([is_one_of(mark, marks) for mark in thing]) and _are_states(list(thing.values()))


def _are_steps(marks, thing):
    if not isinstance(thing, dict) or not all([_is_step(marks, key) for key in thing]):
        return False
    return _are_states(list(thing.values()))


def _is_step(marks, key):
    return isinstance(key, tuple) and len(key) == 2 and _is_state(key[0]) and is_one_of(key[1], marks)


def _are_states(things):
    return all([_is_state(thing) for thing in things])


def _is_state(thing):
    return is_index(thing, MOST_STATES)


def _need_watched_kind(plan, kind):
    """Refuse plan, or what is no kind of it that can be watched."""
    need_plan(plan)
    kinds = plan.kinds()
    if not is_one_of(kind, kinds.all_kinds()) or any([len(mark) > MOST_SIGNS for mark in kinds.marks(kind)]):
        raise BadKind(kind)


def need_watcher(plan, kind, watcher):
    """Refuse plan, kind, or watcher."""
    if not is_watcher(plan, kind, watcher):
        raise BadWatcher(watcher)


def many_states(watcher):
    """Tell how many states a watcher has."""
    born, steps = watcher
    return 1 + max([*list(born.values()), *list(steps.values()), *[state for state, _ in steps]])


def state_then(watcher, state, mark):
    """Tell the state of a record that had this state, when its mark becomes mark, another one."""
    return watcher[1].get((state, mark), state)


def figured(mark, state):
    """Tell a mark with the figure of a state behind it."""
    return f"{mark}{state}"


def born_mark(watcher, mark):
    """Tell a mark with the figure of the state that a record with it has at first."""
    return figured(mark, watcher[0][mark])


def kinds_watched(plan, kind, watcher):
    """Tell the kinds of plan with a mark for each mark and state in the place of this kind's marks."""
    rows = []
    for one, above, marks, lasts in plan.kinds().all_rows():
        rows.append((one, above, _all_figures(watcher, marks) if one == kind else marks, lasts))
    return Kinds(rows)


def _all_figures(watcher, marks):
    return [figured(mark, state) for mark in marks for state in range(many_states(watcher))]


def watched(plan, kind, watcher):
    """Tell the plan in which the marks of this kind tell what its records have been, too."""
    need_watcher(plan, kind, watcher)
    return Plan(kinds_watched(plan, kind, watcher), [_deed_watched(kind, watcher, deed) for deed in plan.all_deeds()])


def _deed_watched(kind, watcher, deed):
    name, who, asks, turns, pours, moves, news = deed
    return (
        name,
        [(one, lies, _turn_watched(watcher, turn) if one == kind else turn) for one, lies, turn in who],
        [(place, one, _all_figures(watcher, marks) if one == kind else marks) for place, one, marks in asks],
        [(place, one, _turn_watched(watcher, turn) if one == kind else turn) for place, one, turn in turns],
        pours,
        moves,
        [(one, born_mark(watcher, mark) if one == kind else mark, spot) for one, mark, spot in news],
    )


def _turn_watched(watcher, turn):
    found = {}
    for mark in turn:
        for state in range(many_states(watcher)):
            found[figured(mark, state)] = _goal_watched(watcher, mark, turn[mark], state)
    return found


def _goal_watched(watcher, mark, goal, state):
    """Tell what becomes of a mark that a turn leads to goal, in this state."""
    if goal is None:
        return None
    return figured(goal, state if goal == mark else state_then(watcher, state, goal))


def watched_beginning(plan, kind, watcher, beginning):
    """Tell the beginning with the figures of first states behind the marks of this kind."""
    need_watcher(plan, kind, watcher)
    return told_seeds(_seeds_watched(kind, watcher, need_beginning(plan.kinds(), beginning)))


def _seeds_watched(kind, watcher, seeds):
    return [
        (one, born_mark(watcher, mark) if one == kind else mark, _seeds_watched(kind, watcher, inner), many)
        for one, mark, inner, many in seeds
    ]


def joined_watcher(plan, kind, watcher, other):
    """Tell the watcher that tells the states of both at once."""
    need_watcher(plan, kind, watcher)
    if not is_watcher(plan, kind, other) or many_states(watcher) * many_states(other) > MOST_STATES:
        raise BadOther(other)
    marks = plan.kinds().marks(kind)
    many = many_states(other)
    born = {mark: watcher[0][mark] * many + other[0][mark] for mark in marks}
    steps = {}
    for state in range(many_states(watcher) * many):
        mine, theirs = state // many, state % many
        for mark in marks:
            then = state_then(watcher, mine, mark) * many + state_then(other, theirs, mark)
            if then != state:
                steps[(state, mark)] = then
    return (born, steps)
