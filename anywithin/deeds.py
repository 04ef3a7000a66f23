"""Deeds: what they look at, turn, pour, move, make and ask."""

from anywithin.kinds import need_kinds
from anywithin.words import is_index, is_list, is_list_of, is_name, is_one_of


def is_deed(kinds, thing):
    """Tell whether any object is a deed of these kinds."""
    return deed_fault(kinds, thing) is None


def deed_fault(kinds, thing):
    """Tell (list, index) of the first wrong thing in any object, None for a deed."""
    need_kinds(kinds)
    if not is_list_of(thing, 7) or not is_name(thing[0]) or not all([is_list(part) for part in thing[1:]]):
        return ("form", 0)
    _, who, asks, turns, pours, moves, news = thing
    index = _who_fault(kinds, who)
    if index is not None:
        return ("who", index)
    index = _first_false([is_ask(kinds, who, ask) for ask in asks])
    if index is not None:
        return ("asks", index)
    index = _first_false([_is_turns_row(kinds, who, row) for row in turns])
    if index is not None:
        return ("turns", index)
    held = [row[0] for row in who]
    made = [_kind_made(kinds, row) for row in news]
    index = _pours_fault(kinds, held, made, pours)
    if index is not None:
        return ("pours", index)
    index = _moves_fault(kinds, held, made, moves)
    if index is not None:
        return ("moves", index)
    index = _news_fault(kinds, held, made, news)
    if index is not None:
        return ("news", index)
    return None


def _first_false(answers):
    return answers.index(False) if False in answers else None


def _is_turn(kinds, kind, thing):
    if not isinstance(thing, dict) or len(thing) == 0:
        return False
    marks = kinds.marks(kind)
    if not all([is_one_of(mark, marks) for mark in thing]):
        return False
    return all([goal is None or is_one_of(goal, marks) for goal in list(thing.values())])


def _who_fault(kinds, who):
    for index, row in enumerate(who):
        if not is_list_of(row, 3) or not is_one_of(row[0], kinds.all_kinds()):
            return index
        kind, lies, turn = row
        above = kinds.above(kind)
        if above == "":
            fits = lies is None
        else:
            fits = is_index(lies, index) and who[lies][0] == above
        if not fits or not _is_turn(kinds, kind, turn):
            return index
    return None


def _falls_somewhere(kinds, who, place, kind):
    """Tell whether place is None, or an index of who beneath whose kind this kind lies."""
    if place is None:
        return True
    return is_index(place, len(who)) and kind in kinds.within(who[place][0])


def is_ask(kinds, who, thing):
    """Tell whether any object is an ask that a deed with these who could have."""
    if not is_list_of(thing, 3) or not is_one_of(thing[1], kinds.all_kinds()):
        return False
    place, kind, marks = thing
    if kinds.lasts(kind) or not _falls_somewhere(kinds, who, place, kind) or not is_list(marks):
        return False
    fitting = kinds.marks(kind)
    return all([is_one_of(mark, fitting) for mark in marks]) and len(set(marks)) == len(marks)


def _is_turns_row(kinds, who, thing):
    if not is_list_of(thing, 3) or not is_one_of(thing[1], kinds.all_kinds()):
        return False
    place, kind, turn = thing
    return _falls_somewhere(kinds, who, place, kind) and _is_turn(kinds, kind, turn)


def _kind_made(kinds, row):
    """Tell the kind that a thing of news has, None if it has none."""
    if is_list_of(row, 3) and is_one_of(row[0], kinds.all_kinds()):
        return row[0]
    return None


def _is_spot(held, made, thing, kind):
    """Tell whether any object is a spot of kind, by the kinds of who and of news."""
    if not is_list_of(thing, 2) or not is_one_of(thing[0], ["who", "new"]):
        return False
    word, index = thing
    there = held if word == "who" else made
    return is_index(index, len(there)) and there[index] == kind


def _pours_fault(kinds, held, made, pours):
    seen = {}
    for at, row in enumerate(pours):
        if not is_list_of(row, 3) or not is_index(row[0], len(held)):
            return at
        index, kind, spot = row
        if not is_one_of(kind, kinds.parts(held[index])) or (index, kind) in seen:
            return at
        if not _is_spot(held, made, spot, held[index]) or tuple(spot) == ("who", index):
            return at
        seen[(index, kind)] = True
    return None


def _moves_fault(kinds, held, made, moves):
    seen = {}
    for at, row in enumerate(moves):
        if not is_list_of(row, 2) or not is_index(row[0], len(held)):
            return at
        index, spot = row
        above = kinds.above(held[index])
        if above == "" or index in seen or not _is_spot(held, made, spot, above):
            return at
        seen[index] = True
    return None


def _news_fault(kinds, held, made, news):
    for at, row in enumerate(news):
        kind = made[at]
        if kind is None or not is_one_of(row[1], kinds.marks(kind)):
            return at
        above = kinds.above(kind)
        if above == "":
            fits = row[2] is None
        else:
            fits = _is_spot(held, made[:at], row[2], above)
        if not fits:
            return at
    return None


def told_deed(deed):
    """Tell a deed as tuples throughout, its turns as new dicts."""
    name, who, asks, turns, pours, moves, news = deed
    return (
        name,
        tuple([(kind, lies, _told_turn(turn)) for kind, lies, turn in who]),
        tuple([told_ask(ask) for ask in asks]),
        tuple([(place, kind, _told_turn(turn)) for place, kind, turn in turns]),
        tuple([(index, kind, tuple(spot)) for index, kind, spot in pours]),
        tuple([(index, tuple(spot)) for index, spot in moves]),
        tuple([(kind, mark, _told_spot(spot)) for kind, mark, spot in news]),
    )


def told_ask(ask):
    """Tell an ask, its marks ascending."""
    place, kind, marks = ask
    return (place, kind, tuple(sorted(marks)))


def _told_turn(turn):
    return {mark: turn[mark] for mark in sorted(turn)}


def _told_spot(spot):
    return None if spot is None else tuple(spot)


def deed_called(deed, names):
    """Tell the deed whose kinds and marks are called as names say, with its own name."""
    name, who, asks, turns, pours, moves, news = deed
    return told_deed((
        name,
        [(names[kind], lies, _turn_called(turn, names)) for kind, lies, turn in who],
        [(place, names[kind], [names[mark] for mark in marks]) for place, kind, marks in asks],
        [(place, names[kind], _turn_called(turn, names)) for place, kind, turn in turns],
        [(index, names[kind], spot) for index, kind, spot in pours],
        moves,
        [(names[kind], names[mark], spot) for kind, mark, spot in news],
    ))


def _turn_called(turn, names):
    return {names[mark]: None if turn[mark] is None else names[turn[mark]] for mark in turn}
