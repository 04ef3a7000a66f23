"""Stands, lists of stands, and beginnings as text."""

from anywithin.beginnings import need_beginning, told_seeds
from anywithin.kinds import need_kinds
from anywithin.least import need_stands
from anywithin.lines import line_of, read_line
from anywithin.reading import Cursor, text_fault
from anywithin.refusals import BadBeginningText, BadStandsText, BadStandText
from anywithin.stands import need_stand
from anywithin.trees import told_heap


def stand_text(kinds, stand):
    """Tell the line of a stand."""
    return line_of(need_stand(kinds, stand))


def read_stand(kinds, text):
    """Tell the stand, told, of which this is the text."""
    fault = stand_text_fault(kinds, text)
    if fault is not None:
        line, sign = fault
        raise BadStandText(line, sign)
    return told_heap(_read_one(Cursor(text), kinds, False))


def stand_text_fault(kinds, text):
    """Tell (line, sign) of the first wrong sign of any object, None for a text of a stand."""
    need_kinds(kinds)
    return text_fault(text, lambda cursor: _read_one(cursor, kinds, False))


def _read_one(cursor, kinds, starred):
    """Read a single line."""
    found = read_line(cursor, kinds, starred)
    cursor.need_end()
    return found


def stands_text(kinds, stands):
    """Tell the lines of some stands, in order."""
    return "".join([line_of(heap) for heap in need_stands(kinds, stands)])


def read_stands(kinds, text):
    """Tell the stands, told, of which this is the text, in order."""
    fault = stands_text_fault(kinds, text)
    if fault is not None:
        line, sign = fault
        raise BadStandsText(line, sign)
    return [told_heap(stand) for stand in _read_all(Cursor(text), kinds)]


def stands_text_fault(kinds, text):
    """Tell (line, sign) of the first wrong sign of any object, None for a text of stands."""
    need_kinds(kinds)
    return text_fault(text, lambda cursor: _read_all(cursor, kinds))


def _read_all(cursor, kinds):
    """Read lines up to the end."""
    found = []
    while not cursor.is_done():
        found.append(read_line(cursor, kinds, False))
    return found


def beginning_text(kinds, beginning):
    """Tell the line of a beginning."""
    return line_of(need_beginning(kinds, beginning))


def read_beginning(kinds, text):
    """Tell the beginning, told, of which this is the text."""
    fault = beginning_text_fault(kinds, text)
    if fault is not None:
        line, sign = fault
        raise BadBeginningText(line, sign)
    return told_seeds(_read_one(Cursor(text), kinds, True))


def beginning_text_fault(kinds, text):
    """Tell (line, sign) of the first wrong sign of any object, None for a text of a beginning."""
    need_kinds(kinds)
    return text_fault(text, lambda cursor: _read_one(cursor, kinds, True))
