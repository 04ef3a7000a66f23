"""Grounds: records with numbers, on which deeds and deletions are done."""

from anywithin.doing import done, falling, misplaced_who, unheld_ask
from anywithin.errors import Asked, BadKind, BadNumber, BadNumbers, BadPlace, Lasts, NoRecord, NotThere, Twice
from anywithin.plans import need_plan
from anywithin.stands import need_stand
from anywithin.trees import heap_of, numbers_of, rows_of, without_row
from anywithin.words import is_index, is_list_of, is_number, is_one_of


class Ground:
    """The records of a stand, each with a number, and what becomes of them."""

    def __init__(self, plan, stand):
        need_plan(plan)
        told = need_stand(plan.kinds(), stand)
        self._plan = plan
        self._rows = {number: row for number, row in enumerate(rows_of(told))}
        self._given = len(self._rows)

    def __eq__(self, other):
        if not isinstance(other, Ground) or self._given != other._given:
            return False
        return self._plan == other._plan and self._rows == other._rows

    def plan(self):
        """Tell the plan."""
        return self._plan

    def numbers(self):
        """Tell the numbers that are here, ascending."""
        return sorted(self._rows)

    def given(self):
        """Tell how many numbers were given so far."""
        return self._given

    def record(self, number):
        """Tell (kind, mark, above) of a number, None if it is not here."""
        self._need_given(number)
        return self._rows.get(number)

    def parts(self, number):
        """Tell the numbers of the records that lie directly in this one."""
        self._need_given(number)
        return [part for part in sorted(self._rows) if self._rows[part][2] == number]

    def _need_given(self, number):
        if not is_index(number, self._given):
            raise BadNumber(number)

    def stand(self):
        """Tell the stand of all that is here."""
        return heap_of(self._rows)

    def in_order(self):
        """Tell the numbers that are here in the order of the paths of the told stand."""
        return numbers_of(self._rows)

    def copy(self):
        """Tell a Ground that is equal to this one, and goes on by itself."""
        twin = Ground(self._plan, [])
        twin._rows = {number: self._rows[number] for number in self._rows}
        twin._given = self._given
        return twin

    def handed(self, plan):
        """Tell a Ground with the same records, on which another plan of the same kinds goes on."""
        twin = self.copy()
        twin._plan = plan
        return twin

    def delete(self, number):
        """Let a record go, with all that lies in it."""
        self._need_here(number)
        if self._plan.kinds().lasts(self._rows[number][0]):
            raise Lasts(number)
        self._rows = without_row(self._rows, number)

    def _need_here(self, number):
        if not is_number(number) or number not in self._rows:
            raise NoRecord(number)

    def do(self, name, numbers):
        """Do a deed with the records of these numbers; tell the numbers of the new ones."""
        deed = self._plan.deed(name)
        self._need_who(deed, numbers)
        index = unheld_ask(self._rows, deed[2], numbers)
        if index is not None:
            raise Asked(index)
        made = [self._given + index for index in range(len(deed[6]))]
        self._rows = done(self._rows, self._given, deed, numbers)
        self._given += len(made)
        return made

    def _need_who(self, deed, numbers):
        """Refuse numbers with which the deed could not be done even if it asked nothing."""
        if not is_list_of(numbers, len(deed[1])) or not all([is_number(number) for number in numbers]):
            raise BadNumbers(numbers)
        for number in numbers:
            self._need_here(number)
        seen = {}
        for number in numbers:
            if number in seen:
                raise Twice(number)
            seen[number] = True
        index = misplaced_who(self._rows, deed[1], numbers)
        if index is not None:
            raise NotThere(index)

    def others(self, name, numbers, place, kind):
        """Tell the numbers of the others that fall under (place, kind), by this deed with these who."""
        deed = self._plan.deed(name)
        self._need_who(deed, numbers)
        if place is not None and not is_index(place, len(numbers)):
            raise BadPlace(place)
        if not is_one_of(kind, self._plan.kinds().all_kinds()):
            raise BadKind(kind)
        return falling(self._rows, numbers, place, kind)
