"""A level between: all that stands lies in records of one more kind, and each deed is done within one of these."""

from anywithin.beginnings import need_beginning
from anywithin.errors import BadMark, BadNumber, BadPlay
from anywithin.kinds import Kinds
from anywithin.plans import Plan, need_plan
from anywithin.plays import is_play, need_play, need_seeds, told_step
from anywithin.refusals import BadTop
from anywithin.shifting import deed_shifted
from anywithin.stands import need_stand
from anywithin.trees import heap_size, told_heap
from anywithin.words import is_name, is_number, is_one_of


def _need_top(plan, top, mark):
    """Refuse what can be no kind above all of plan's, or no mark of it."""
    if not is_name(top) or is_one_of(top, plan.kinds().all_kinds()):
        raise BadTop(top)
    if not is_name(mark):
        raise BadMark(mark)


def plan_under(plan, top, mark):
    """Tell the plan whose kinds lie in one more, each deed done within a record of this one."""
    need_plan(plan)
    _need_top(plan, top, mark)
    return _plan_under(plan, top, mark)


def _plan_under(plan, top, mark):
    rows = plan.kinds().all_rows()
    lower = [(kind, top if above == "" else above, marks, lasts) for kind, above, marks, lasts in rows]
    kinds = Kinds([(top, "", [mark], any([row[3] for row in rows])), *lower])
    return Plan(kinds, [_deed_under(deed, top, mark) for deed in plan.all_deeds()])


def _deed_under(deed, top, mark):
    led = {index: index + 1 for index in range(len(deed[1]))}
    # What lay, or was looked for, nowhere lies in the record of top, which is named ahead of all.
    led[None] = 0
    name, who, *rest = deed_shifted(deed, None, led, list(range(len(deed[6]))))
    return (name, [(top, None, {mark: mark}), *who], *rest)


def stand_under(plan, stand, top, mark):
    """Tell the stand of one record of top in which all of stand lies."""
    need_plan(plan)
    told = need_stand(plan.kinds(), stand)
    _need_top(plan, top, mark)
    return ((top, mark, told),)


def beginning_under(plan, beginning, top, mark):
    """Tell the beginning of any number of records of top, each begun as beginning says."""
    need_plan(plan)
    seeds = need_beginning(plan.kinds(), beginning)
    _need_top(plan, top, mark)
    return ((top, mark, seeds, True),)


def play_under(plan, beginning, play, top, mark):
    """Tell the play that goes on as this one does, within one record of top."""
    first, steps = need_play(plan, beginning, play)
    _need_top(plan, top, mark)
    found = []
    for step in steps:
        if step[0] == "do":
            found.append(("do", step[1], [0, *[number + 1 for number in step[2]]]))
        else:
            found.append(("delete", step[1] + 1))
    return (((top, mark, first),), found)


def play_within(plan, beginning, top, mark, play, number):
    """Tell the play of plan that goes on within the record of top with this number."""
    seeds = need_seeds(plan, beginning)
    _need_top(plan, top, mark)
    if not is_play(_plan_under(plan, top, mark), ((top, mark, seeds, True),), play):
        raise BadPlay(play)
    first = told_heap(play[0])
    tops = _tops_by_number(first)
    if not is_number(number) or number not in tops:
        raise BadNumber(number)
    inner = tops[number][2]
    return (inner, _steps_within(plan, [told_step(step) for step in play[1]], number, inner, heap_size(first)))


def _tops_by_number(heap):
    """Tell a dict from the numbers of the tops of a told stand to these."""
    found = {}
    number = 0
    for record in heap:
        found[number] = record
        number += 1 + heap_size(record[2])
    return found


def _steps_within(plan, steps, top, inner, given):
    """Tell, of told steps, those within the record with the number top, numbers as they are given there."""
    now = heap_size(inner)
    led = {top + 1 + index: index for index in range(now)}
    found = []
    for step in steps:
        if step[0] == "delete":
            if step[1] == top:
                break
            if step[1] in led:
                found.append(("delete", led[step[1]]))
            continue
        made = len(plan.deed(step[1])[6])
        if step[2][0] == top:
            found.append(("do", step[1], [led[number] for number in step[2][1:]]))
            led.update({given + index: now + index for index in range(made)})
            now += made
        given += made
    return found
