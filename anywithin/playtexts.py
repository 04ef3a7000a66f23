"""Plays as text."""

from anywithin.errors import BadSteps
from anywithin.lines import line_of, read_line
from anywithin.plans import need_plan
from anywithin.plays import is_step_form
from anywithin.reading import Cursor, text_fault
from anywithin.refusals import BadPlayText
from anywithin.stands import is_stand
from anywithin.trees import told_heap
from anywithin.words import is_list, is_list_of, is_number, is_one_of

# An int of more figures than some thousand is neither written nor read at once by Python itself.
PART = 1000000000
PART_FIGURES = 9


def play_text(plan, play):
    """Tell the text of a play: the line of its first stand, then a line for each step."""
    need_plan(plan)
    if not is_list_of(play, 2) or not is_stand(plan.kinds(), play[0]) or not is_list(play[1]):
        raise BadSteps(0)
    needs = _numbers_needed(plan)
    for index, step in enumerate(play[1]):
        if not _is_step(needs, step):
            raise BadSteps(index)
    return line_of(told_heap(play[0])) + "".join([" ".join(_words_of(step)) + "\n" for step in play[1]])


def _numbers_needed(plan):
    """Tell how many numbers a step has by each of the deeds, names ascending."""
    return {deed[0]: len(deed[1]) for deed in plan.all_deeds()}


def _is_step(needs, thing):
    """Tell whether any object is a step by its form, refused or not."""
    if not is_step_form(thing):
        return False
    if thing[0] == "delete":
        return True
    name, numbers = thing[1], thing[2]
    return is_one_of(name, needs) and len(numbers) == needs[name] and all([is_number(number) for number in numbers])


def _words_of(step):
    if step[0] == "delete":
        return ["delete", _figures_of(step[1])]
    return ["do", step[1], *[_figures_of(number) for number in step[2]]]


def _figures_of(number):
    """Tell a NUMBER in figures, however great it is."""
    parts = []
    while number >= PART:
        number, rest = divmod(number, PART)
        parts.append(str(rest).zfill(PART_FIGURES))
    parts.append(str(number))
    return "".join(reversed(parts))


def _number_of(figures):
    """Tell the NUMBER that these figures say, however many they are."""
    number = 0
    for figure in figures:
        number = 10 * number + int(figure)
    return number


def read_play(plan, text):
    """Tell the play of which this is a text, told."""
    fault = play_text_fault(plan, text)
    if fault is not None:
        line, sign = fault
        raise BadPlayText(line, sign)
    return _read(Cursor(text), plan)


def play_text_fault(plan, text):
    """Tell (line, sign) of the first wrong sign of any object, None for a text of a play."""
    need_plan(plan)
    return text_fault(text, lambda cursor: _read(cursor, plan))


def _read(cursor, plan):
    first = read_line(cursor, plan.kinds(), False)
    needs = _numbers_needed(plan)
    steps = []
    while not cursor.is_done():
        steps.append(_read_step(cursor, needs))
    return (told_heap(first), steps)


def _read_step(cursor, needs):
    if cursor.one_of(["do ", "delete "] if needs else ["delete "]) == "delete ":
        return ("delete", _number_of(cursor.read_number("\n")[:-1]))
    name = cursor.one_of([one + (" " if needs[one] else "\n") for one in needs])[:-1]
    many = needs[name]
    numbers = []
    while len(numbers) < many:
        end = "\n" if len(numbers) + 1 == many else " "
        numbers.append(_number_of(cursor.read_number(end)[:-1]))
    return ("do", name, numbers)
