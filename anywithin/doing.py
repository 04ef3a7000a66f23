"""What a deed does with records, given as a dict from their numbers to (kind, mark, above).

deed is told, numbers is the list of the numbers of its who; given is how many numbers were given so far.
"""

from anywithin.trees import lies_within


def falling(rows, numbers, place, kind):
    """Tell the numbers of the others that fall under (place, kind), ascending."""
    found = []
    for number in sorted(rows):
        if rows[number][0] != kind or number in numbers:
            continue
        if place is None or lies_within(rows, number, numbers[place]):
            found.append(number)
    return found


def misplaced_who(rows, who, numbers):
    """Tell the first index of who whose record is not as its row says, None if all are."""
    for index, (kind, lies, turn) in enumerate(who):
        there, mark, above = rows[numbers[index]]
        holder = None if lies is None else numbers[lies]
        if there != kind or above != holder or mark not in turn:
            return index
    return None


def unheld_ask(rows, asks, numbers):
    """Tell the first index of asks that does not hold, None if all do."""
    for index, (place, kind, marks) in enumerate(asks):
        if not all([rows[number][1] in marks for number in falling(rows, numbers, place, kind)]):
            return index
    return None


def done(rows, given, deed, numbers):
    """Tell the rows behind the deed."""
    marks = _marks_then(rows, deed, numbers)
    aboves = _aboves_then(rows, given, deed, numbers)
    then = {number: (rows[number][0], marks[number], aboves[number]) for number in rows}
    for index, (kind, mark, spot) in enumerate(deed[6]):
        then[given + index] = (kind, mark, _number_of(spot, given, numbers))
    return {number: then[number] for number in then if _stays(then, number)}


def _marks_then(rows, deed, numbers):
    """Tell the mark of each record behind the deed, None if it goes."""
    turned = {}
    for index, (_, _, turn) in enumerate(deed[1]):
        turned[numbers[index]] = turn[rows[numbers[index]][1]]
    for place, kind, turn in deed[3]:
        for number in falling(rows, numbers, place, kind):
            mark = rows[number][1]
            # Only the first turn that fits counts.
            if number not in turned and mark in turn:
                turned[number] = turn[mark]
    return {number: turned.get(number, rows[number][1]) for number in rows}


def _aboves_then(rows, given, deed, numbers):
    """Tell in which number each record lies behind the deed."""
    aboves = {number: rows[number][2] for number in rows}
    for index, kind, spot in deed[4]:
        for number in rows:
            if rows[number][0] == kind and rows[number][2] == numbers[index] and number not in numbers:
                aboves[number] = _number_of(spot, given, numbers)
    for index, spot in deed[5]:
        aboves[numbers[index]] = _number_of(spot, given, numbers)
    return aboves


def _number_of(spot, given, numbers):
    """Tell the number of the record that a spot names."""
    if spot is None:
        return None
    word, index = spot
    return numbers[index] if word == "who" else given + index


def _stays(rows, number):
    """Tell whether neither the record nor anything in which it lies goes."""
    at = number
    while at is not None:
        if rows[at][1] is None:
            return False
        at = rows[at][2]
    return True
