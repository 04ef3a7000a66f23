"""Kinds as text."""

from anywithin.kinds import Kinds, need_kinds
from anywithin.reading import Cursor, text_fault, with_ends
from anywithin.refusals import BadKindsText


def kinds_text(kinds):
    """Tell the text of kinds: a line for each, behind that of its above."""
    need_kinds(kinds)
    return "".join(_lines_of(kinds, ""))


def _lines_of(kinds, above):
    """Tell the lines of all kinds that lie in above, at whatever level."""
    lines = []
    for kind in kinds.parts(above):
        words = ["top"] if above == "" else ["in", above]
        lasts = "lasts" if kinds.lasts(kind) else "goes"
        lines.append(" ".join([*words, kind, lasts, *kinds.marks(kind)]) + "\n")
        lines.extend(_lines_of(kinds, kind))
    return lines


def read_kinds(text):
    """Tell the kinds of which this is a text."""
    fault = kinds_text_fault(text)
    if fault is not None:
        line, sign = fault
        raise BadKindsText(line, sign)
    return _read(Cursor(text))


def kinds_text_fault(text):
    """Tell (line, sign) of the first wrong sign of any object, None for a text of kinds."""
    return text_fault(text, _read)


def _read(cursor):
    rows = {}
    while not cursor.is_done():
        row = _read_row(cursor, rows)
        rows[row[0]] = row
    return Kinds(list(rows.values()))


def _read_row(cursor, rows):
    """Read the line of one kind more; rows is a dict from the kinds ahead to their rows."""
    above = ""
    if cursor.one_of(["top ", "in "] if rows else ["top "]) == "in ":
        above = cursor.one_of(with_ends(rows, " "))[:-1]
    kind = cursor.new_name(rows, " ")[:-1]
    may_last = above == "" or rows[above][3]
    lasts = cursor.one_of(["goes ", "lasts "] if may_last else ["goes "]) == "lasts "
    marks = []
    word = " "
    while word[-1] == " ":
        word = cursor.new_name(marks, " \n")
        marks.append(word[:-1])
    return (kind, above, marks, lasts)
