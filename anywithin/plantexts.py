"""Plans as text."""

from anywithin.drafts import Draft
from anywithin.kinds import need_kinds
from anywithin.plans import Plan, need_plan
from anywithin.reading import Cursor, text_fault, with_ends
from anywithin.refusals import BadPlanText


def plan_text(plan):
    """Tell the text of a plan: for each deed its name, then a line for each thing in its lists."""
    need_plan(plan)
    return "".join([" ".join(words) + "\n" for deed in plan.all_deeds() for words in _lines_of(deed)])


def _lines_of(deed):
    """Tell the lists of words of the lines of a told deed."""
    name, who, asks, turns, pours, moves, news = deed
    return [
        ["deed", name],
        *[["who", kind, "top" if lies is None else str(lies), *_turn_words(turn)] for kind, lies, turn in who],
        *[["new", kind, mark, "top" if spot is None else _spot_word(spot)] for kind, mark, spot in news],
        *[["ask", _place_word(place), kind, *marks] for place, kind, marks in asks],
        *[["turn", _place_word(place), kind, *_turn_words(turn)] for place, kind, turn in turns],
        *[["pour", str(index), kind, _spot_word(spot)] for index, kind, spot in pours],
        *[["move", str(index), _spot_word(spot)] for index, spot in moves],
    ]


def _turn_words(turn):
    return [mark + ">" + ("-" if turn[mark] is None else turn[mark]) for mark in turn]


def _place_word(place):
    return "all" if place is None else str(place)


def _spot_word(spot):
    word, index = spot
    return f"w{index}" if word == "who" else f"n{index}"


def read_plan(kinds, text):
    """Tell the plan of which this is a text."""
    fault = plan_text_fault(kinds, text)
    if fault is not None:
        line, sign = fault
        raise BadPlanText(line, sign)
    return _read(Cursor(text), kinds)


def plan_text_fault(kinds, text):
    """Tell (line, sign) of the first wrong sign of any object, None for a text of a plan."""
    need_kinds(kinds)
    return text_fault(text, lambda cursor: _read(cursor, kinds))


def _read(cursor, kinds):
    drafts = {}
    draft = None
    while not cursor.is_done():
        starts = [] if draft is None else draft.starts()
        word = cursor.one_of(with_ends(["deed", *starts], " "))[:-1]
        if word == "deed":
            name = cursor.new_name(drafts, "\n")[:-1]
            draft = Draft(kinds, name)
            drafts[name] = draft
        else:
            draft.read(cursor, word)
    return Plan(kinds, [one.deed() for one in list(drafts.values())])
