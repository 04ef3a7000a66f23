"""Sorts, which are pairs of a kind and a mark of it, and the stands that have some records of them."""

from anywithin.words import is_list_of, is_one_of


def is_sort(kinds, thing):
    """Tell whether any object is a pair of a kind and one of its marks."""
    if not is_list_of(thing, 2) or not is_one_of(thing[0], kinds.all_kinds()):
        return False
    return is_one_of(thing[1], kinds.marks(thing[0]))


def held(kinds, above, heap):
    """Tell the stands in which these told records lie in one of kind above, that in one of its above, and so on.

    There is one for each choice of the marks of these, ascending; for "" the records are tops.
    """
    heaps = [heap]
    # Marks come ascending, and those further out are put ahead: so the stands stay ascending.
    while above != "":
        heaps = [((above, mark, one),) for mark in kinds.marks(above) for one in heaps]
        above = kinds.above(above)
    return heaps
