"""Plays with less: steps left out, numbers led over."""

from anywithin.errors import BadIndex, NotBrought
from anywithin.fitting import fits_in
from anywithin.plays import ends, is_bringing, is_play, need_asked, need_play
from anywithin.steps import led_over, numbers_named
from anywithin.trees import heap_size
from anywithin.words import is_index


def left_out(plan, beginning, play, index):
    """Tell the play without this step, and without what hangs on it, None if that is no play."""
    told = need_play(plan, beginning, play)
    if not is_index(index, len(told[1])):
        raise BadIndex(index)
    fewer = _fewer_steps(plan, told, index)
    return fewer if is_play(plan, beginning, fewer) else None


def _fewer_steps(plan, play, index):
    """Tell a told play without this step, and without each later one that names what goes with it."""
    first, steps = play
    given = heap_size(first)
    now = given
    # To the numbers that the same records get now; what a step that is left out made has none.
    led = {number: number for number in range(given)}
    kept = []
    for at, step in enumerate(steps):
        many = _many_made(plan, step)
        if at != index and all([number in led for number in numbers_named(step)]):
            kept.append(led_over(step, led))
            led.update({given + made: now + made for made in range(many)})
            now += many
        given += many
    return (first, kept)


def _many_made(plan, step):
    """Tell how many new records a step makes."""
    return len(plan.deed(step[1])[6]) if step[0] == "do" else 0


def thinned(plan, beginning, asked, play):
    """Tell what is left if single steps are left out again and again while the play still brings asked."""
    told = _need_bringing(plan, beginning, asked, play)
    many = None
    while many != len(told[1]):
        many = len(told[1])
        told = _thinned_once(plan, beginning, asked, told)
    return told


def _thinned_once(plan, beginning, asked, play):
    """Go from the last step to the first one, and leave out whatever may be left out then."""
    many = len(play[1])
    left = play
    # What is left out takes only later steps with it, so the next one ahead keeps its index.
    for index in reversed(range(many)):
        fewer = _fewer_steps(plan, left, index)
        if is_bringing(plan, beginning, asked, fewer):
            left = fewer
    return left


def _need_bringing(plan, beginning, asked, play):
    """Tell the told form of play, or refuse the first of the four, or a play that does not bring asked."""
    wanted = need_asked(plan, beginning, asked)
    told = need_play(plan, beginning, play)
    if not fits_in(wanted, ends(plan, beginning, told)):
        raise NotBrought(asked)
    return told


def without_deletions(plan, beginning, play):
    """Tell the play without its deletions, None if that is no play."""
    first, steps = need_play(plan, beginning, play)
    fewer = (first, [step for step in steps if step[0] == "do"])
    return fewer if is_play(plan, beginning, fewer) else None


def deletions_needed(plan, beginning, asked, play):
    """Tell the deletions that are left if each, from the last to the first, is taken away where that may be."""
    first, steps = _need_bringing(plan, beginning, asked, play)
    many = len(steps)
    left = steps
    for index in reversed(range(many)):
        fewer = [*left[:index], *left[index + 1:]]
        if left[index][0] == "delete" and is_bringing(plan, beginning, asked, (first, fewer)):
            left = fewer
    return [step for step in left if step[0] == "delete"]
