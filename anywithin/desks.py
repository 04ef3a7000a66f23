"""Desks: plans that are made deed by deed, and let nothing in by which a kept pattern would come."""

from anywithin.beginnings import need_beginning
from anywithin.deeds import is_deed
from anywithin.errors import BadAsked
from anywithin.leading import Backs, comes, verdict_of
from anywithin.plans import Plan, with_ask, without_ask, without_deeds
from anywithin.refusals import BadDeed, IsKept, IsThere, LetsIn, NotKept
from anywithin.stands import stand_index
from anywithin.trees import told_heap


class Desk:
    """A plan, a beginning, and the patterns that are kept from coming."""

    def __init__(self, kinds, beginning):
        self._beginning = need_beginning(kinds, beginning)
        self._plan = Plan(kinds, [])
        self._kept = ()
        # What can be undone, and redone: words, each with the plan and the kept patterns to which it leads.
        self._undoable = []
        self._redoable = []
        self._backs = Backs()

    def __eq__(self, other):
        if not isinstance(other, Desk) or self._plan != other._plan or self._beginning != other._beginning:
            return False
        return self._kept == other._kept and self._redoable == other._redoable

    def plan(self):
        """Tell the plan, which stays as it is."""
        return self._plan

    def beginning(self):
        """Tell the beginning, told."""
        return self._beginning

    def kept(self):
        """Tell the kept patterns, told, in the order in which they were kept."""
        return list(self._kept)

    def add(self, deed):
        """Have one deed more."""
        more = self._plan_with(deed)
        self._need_barred(more, self._kept)
        self._go_on("add", more, self._kept)

    def drop(self, name):
        """Have the deed of this name no more."""
        self._plan.deed(name)
        self._go_on("drop", without_deeds(self._plan, [name]), self._kept)

    def put_ask(self, name, ask):
        """Have one ask more at the end of this deed's."""
        self._go_on("put_ask", with_ask(self._plan, name, ask), self._kept)

    def take_ask(self, name, index):
        """Have this ask of this deed no more."""
        less = without_ask(self._plan, name, index)
        self._need_barred(less, self._kept)
        self._go_on("take_ask", less, self._kept)

    def keep(self, asked):
        """Keep one pattern more from coming."""
        told = self._need_asked(asked)
        if told in self._kept:
            raise IsKept(asked)
        # Of all others it is known that none comes by this plan.
        self._need_barred(self._plan, [told])
        self._go_on("keep", self._plan, (*self._kept, told))

    def free(self, asked):
        """Keep this pattern no more."""
        told = self._need_asked(asked)
        if told not in self._kept:
            raise NotKept(asked)
        self._go_on("free", self._plan, tuple([heap for heap in self._kept if heap != told]))

    def would(self, deed):
        """Tell (asked, play) of a play that would bring a kept pattern if this deed were added, None for none."""
        more = self._plan_with(deed)
        asked = self._first_let(more, self._kept)
        if asked is None:
            return None
        return (asked, verdict_of(more, self._backs.of_plan(more), self._beginning, [asked])[1])

    def undo(self):
        """Take the last change back, and tell its word, None if there is none."""
        return self._led(self._undoable, self._redoable)

    def redo(self):
        """Do the change again that was taken back last, and tell its word, None if there is none."""
        return self._led(self._redoable, self._undoable)

    def copy(self):
        """Tell a Desk that has all that this one has, and goes on by itself."""
        twin = Desk(self._plan.kinds(), self._beginning)
        twin._plan = self._plan
        twin._kept = self._kept
        twin._undoable = list(self._undoable)
        twin._redoable = list(self._redoable)
        return twin

    def _plan_with(self, deed):
        """Tell the plan with one deed more, or refuse it."""
        deeds = self._plan.all_deeds()
        if not is_deed(self._plan.kinds(), deed):
            raise BadDeed(deed)
        if deed[0] in [one[0] for one in deeds]:
            raise IsThere(deed[0])
        return Plan(self._plan.kinds(), [*deeds, deed])

    def _need_asked(self, asked):
        """Tell the told form of asked, or refuse it."""
        index = stand_index(self._plan.kinds(), asked)
        if index is not None:
            raise BadAsked(index)
        return told_heap(asked)

    def _need_barred(self, plan, patterns):
        """Refuse a plan by which one of some told patterns comes."""
        asked = self._first_let(plan, patterns)
        if asked is not None:
            raise LetsIn(asked)

    def _first_let(self, plan, patterns):
        """Tell the first of some told patterns that comes by a plan, None if none does."""
        backs = self._backs.of_plan(plan)
        for asked in patterns:
            if comes(backs, self._beginning, [asked]):
                return asked
        return None

    def _go_on(self, word, plan, kept):
        """Do what a word says."""
        self._undoable.append((word, self._plan, self._kept))
        self._redoable = []
        self._plan = plan
        self._kept = kept

    def _led(self, here, there):
        """Go to the last place of here, and let there lead back; tell the word of it, None if there is none."""
        if not here:
            return None
        word, plan, kept = here.pop()
        there.append((word, self._plan, self._kept))
        self._plan = plan
        self._kept = kept
        return word
