"""Plays: what is done and deleted, step by step, from a stand of a beginning on."""

from anywithin.beginnings import need_beginning
from anywithin.errors import Asked, BadAsked, BadName, BadNumbers, BadPlay, Lasts, NoRecord, NotThere, Twice
from anywithin.fitting import fits_in
from anywithin.grounds import Ground
from anywithin.plans import need_plan
from anywithin.sowings import is_sown
from anywithin.standing import standing
from anywithin.stands import stand_index
from anywithin.trees import told_heap
from anywithin.words import is_list, is_list_of, is_number


def play_fault(plan, beginning, thing):
    """Tell (why, index) of the first thing that is wrong in any object, None for a play."""
    seeds = need_seeds(plan, beginning)
    if not is_list_of(thing, 2) or not is_list(thing[0]) or not is_list(thing[1]):
        return ("form", 0)
    first, steps = thing
    index = stand_index(plan.kinds(), first)
    if index is not None:
        return ("first", index)
    if not is_sown(seeds, told_heap(first)):
        return ("begins", 0)
    ground = Ground(plan, first)
    for at, step in enumerate(steps):
        why = step_fault(ground, step)
        if why is not None:
            return (why, at)
    return None


def step_fault(ground, step):
    """Do the next step, any object, on a ground; tell None, or the word for why it is none there."""
    if not is_step_form(step):
        return "step"
    try:
        do_step(ground, step)
    except BadName:
        return "deed"
    except BadNumbers:
        return "numbers"
    except NoRecord:
        return "record"
    except Twice:
        return "twice"
    except NotThere:
        return "there"
    except Asked:
        return "asked"
    except Lasts:
        return "lasts"
    return None


def is_step_form(thing):
    """Tell whether any object has the form of a step."""
    if not is_list(thing) or len(thing) == 0 or not isinstance(thing[0], str):
        return False
    if thing[0] == "do":
        return len(thing) == 3 and isinstance(thing[1], str) and is_list(thing[2])
    return thing[0] == "delete" and len(thing) == 2 and is_number(thing[1])


def do_step(ground, step):
    """Do one step; tell the numbers of the new records."""
    if step[0] == "do":
        return ground.do(step[1], step[2])
    ground.delete(step[1])
    return []


def is_play(plan, beginning, thing):
    """Tell whether any object is a play."""
    return play_fault(plan, beginning, thing) is None


def need_play(plan, beginning, play):
    """Tell the told form of play, or refuse it."""
    if not is_play(plan, beginning, play):
        raise BadPlay(play)
    first, steps = play
    return (told_heap(first), [told_step(step) for step in steps])


def told_step(step):
    """Tell a step in the told form."""
    if step[0] == "do":
        return ("do", step[1], list(step[2]))
    return ("delete", step[1])


def told_play(plan, beginning, play):
    """Tell the play in its told form."""
    return need_play(plan, beginning, play)


def played(plan, beginning, play):
    """Tell the Ground behind the play."""
    first, steps = need_play(plan, beginning, play)
    ground = Ground(plan, first)
    for step in steps:
        do_step(ground, step)
    return ground


def ends(plan, beginning, play):
    """Tell the stand behind the play."""
    return played(plan, beginning, play).stand()


def stands_of(plan, beginning, play):
    """Tell the stand ahead of the first step, and that behind each one."""
    first, steps = need_play(plan, beginning, play)
    ground = Ground(plan, first)
    found = [ground.stand()]
    for step in steps:
        do_step(ground, step)
        found.append(ground.stand())
    return found


def news_of(plan, beginning, play):
    """Tell, for each step, the list of the numbers of its new records."""
    first, steps = need_play(plan, beginning, play)
    ground = Ground(plan, first)
    return [do_step(ground, step) for step in steps]


def deeds_of(plan, beginning, play):
    """Tell the names of the deeds that are done, in order."""
    return [step[1] for step in need_play(plan, beginning, play)[1] if step[0] == "do"]


def need_seeds(plan, beginning):
    """Tell the told form of beginning, or refuse plan or beginning."""
    need_plan(plan)
    return need_beginning(plan.kinds(), beginning)


def need_asked(plan, beginning, asked):
    """Tell the told form of asked, or refuse the first of the three that is wrong."""
    need_seeds(plan, beginning)
    index = stand_index(plan.kinds(), asked)
    if index is not None:
        raise BadAsked(index)
    return told_heap(asked)


def brings(plan, beginning, asked, play):
    """Tell whether asked lies in the end of the play."""
    told = need_asked(plan, beginning, asked)
    return fits_in(told, ends(plan, beginning, play))


def is_bringing(plan, beginning, asked, thing):
    """Tell whether any object is a play in whose end asked lies."""
    told = need_asked(plan, beginning, asked)
    return is_play(plan, beginning, thing) and fits_in(told, ends(plan, beginning, thing))


def stood(plan, beginning, asked, play):
    """Tell a dict from each path of asked to the number of a record at the end, None if there is none."""
    told = need_asked(plan, beginning, asked)
    return standing(told, played(plan, beginning, play))
