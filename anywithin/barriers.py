"""Told lists of stands that no deed leaves backwards, and in none of which anything begins."""

from anywithin.beneath import Beneath
from anywithin.fitting import fits_in
from anywithin.least import is_above_told, least_told
from anywithin.sowings import is_sown
from anywithin.stands import is_stand
from anywithin.trees import told_heap
from anywithin.words import each_once, is_list


def form_index(kinds, thing):
    """Tell the index of the first thing that is no stand, or alike to one ahead, 0 for no list, None for none."""
    if not is_list(thing):
        return 0
    seen = {}
    for index, stand in enumerate(thing):
        if not is_stand(kinds, stand):
            return index
        # Stands may be nested deeper than keys may be, so they are kept as they are written.
        key = repr(told_heap(stand))
        if key in seen:
            return index
        seen[key] = True
    return None


def barrier_fault(backs, seeds, patterns, heaps):
    """Tell what is first wrong in unlike told stands, None if they are a wall for each of some told patterns."""
    for pattern in patterns:
        if not is_above_told(heaps, pattern):
            return ("asked", 0)
    for index, heap in enumerate(heaps):
        if is_sown(seeds, heap):
            return ("begins", index)
    beneath = Beneath(heaps)
    for index, heap in enumerate(heaps):
        for back in backs:
            unmet = [before for before in back.befores(heap) if not beneath.has_above(before)]
            if unmet:
                # The least of these are least of all: what lies in one of these is not above the list either.
                return ("before", index, back.deed_name(), least_told(unmet)[0])
    return None


def needs_of(backs, pattern, heaps):
    """Tell what a wall of told stands needs: pairs (index, indexes), one of indexes has to stay if index does.

    The first pair, of a stand that lies in the pattern, has the index None: one of these has to stay in any case.
    """
    found = [(None, _beneath(heaps, pattern))]
    for index, heap in enumerate(heaps):
        for back in backs:
            # What is above a least one needs no more than that, so it does not matter that it comes in, too.
            found.extend(each_once([(index, _beneath(heaps, before)) for before in back.befores(heap)]))
    return found


def _beneath(heaps, heap):
    """Tell the indexes of the told stands that lie in a told stand."""
    return [index for index, less in enumerate(heaps) if fits_in(less, heap)]


def still_holds(needs, left):
    """Tell whether the stands with these indexes are a wall by themselves."""
    for index, beneath in needs:
        if (index is None or index in left) and not any([one in left for one in beneath]):
            return False
    return True


def needed_only(needs, many):
    """Tell which of so many stands are left, ascending, if needless ones go, the last ones first, till none is."""
    left = list(range(many))
    reached = None
    while reached != len(left):
        reached = len(left)
        order = list(reversed(left))
        for index in order:
            fewer = [one for one in left if one != index]
            if still_holds(needs, fewer):
                left = fewer
    return left
