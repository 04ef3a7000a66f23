"""The least numbers by which a deed leads from one told stand to another one."""

from anywithin.doing import done, unheld_ask
from anywithin.fitting import fits_in
from anywithin.trees import heap_of, rows_of


def numbers_leading(deed, first, wanted):
    """Tell the least numbers of who by which a told deed leads from first to wanted, None if none do."""
    rows = {number: row for number, row in enumerate(rows_of(first))}
    return _led_on(deed, rows, _records_told(first), wanted, [])


def _records_told(heap):
    """Tell the told record of each number, in order."""
    found = []
    for record in heap:
        found.append(record)
        found.extend(_records_told(record[2]))
    return found


def _led_on(deed, rows, records, wanted, numbers):
    """Choose the numbers behind these."""
    if len(numbers) == len(deed[1]):
        return numbers if _leads(deed, rows, wanted, numbers) else None
    for number in _choices(deed[1], rows, records, numbers):
        found = _led_on(deed, rows, records, wanted, [*numbers, number])
        if found is not None:
            return found
    return None


def _choices(who, rows, records, numbers):
    """Tell the numbers that the next one of who can have; of alike records side by side only the first one."""
    kind, lies, turn = who[len(numbers)]
    holder = None if lies is None else numbers[lies]
    found = []
    seen = []
    for number in sorted(rows):
        there, mark, above = rows[number]
        if there != kind or above != holder or mark not in turn or number in numbers:
            continue
        # Nothing that was chosen lies in either of both, so one can always stand for the other one.
        if records[number] not in seen:
            found.append(number)
            seen.append(records[number])
    return found


def _leads(deed, rows, wanted, numbers):
    if unheld_ask(rows, deed[2], numbers) is not None:
        return False
    return fits_in(wanted, heap_of(done(rows, len(rows), deed, numbers)))
