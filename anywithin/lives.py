"""What becomes of the records of a play, and plays that go on or end sooner."""

from anywithin.errors import BadMany, BadNumber, BadSteps
from anywithin.grounds import Ground
from anywithin.plays import do_step, need_play, played, step_fault, told_step
from anywithin.steps import numbers_named
from anywithin.words import is_index, is_list


def life_of(plan, beginning, play, number):
    """Tell (index, mark, above) for each step behind which a record is another one, (index, None, None) if it goes."""
    first, steps = need_play(plan, beginning, play)
    ground = Ground(plan, first)
    life = []
    _live_on(life, ground, -1, number)
    for index, step in enumerate(steps):
        do_step(ground, step)
        _live_on(life, ground, index, number)
    # A number that was given has lived, if only within one step.
    if not life:
        raise BadNumber(number)
    return life


def _live_on(life, ground, index, number):
    """Put to a life what a record is behind the step with this index, if that is new."""
    if not is_index(number, ground.given()):
        return
    record = ground.record(number)
    now = (None, None) if record is None else (record[1], record[2])
    if not life or life[-1][1:] != now:
        life.append((index, *now))


def named_at(plan, beginning, play, number):
    """Tell the indexes of the steps that name this record, ascending."""
    if not is_index(number, played(plan, beginning, play).given()):
        raise BadNumber(number)
    _, steps = need_play(plan, beginning, play)
    return [index for index, step in enumerate(steps) if number in numbers_named(step)]


def play_behind(plan, beginning, play, steps):
    """Tell the play that goes on with these steps behind its own."""
    ground = played(plan, beginning, play)
    if not is_list(steps):
        raise BadSteps(0)
    for index, step in enumerate(steps):
        if step_fault(ground, step) is not None:
            raise BadSteps(index)
    first, ahead = need_play(plan, beginning, play)
    return (first, [*ahead, *[told_step(step) for step in steps]])


def play_ahead(plan, beginning, play, many):
    """Tell the play of the first so many steps."""
    first, steps = need_play(plan, beginning, play)
    if not is_index(many, len(steps) + 1):
        raise BadMany(many)
    return (first, steps[:many])
