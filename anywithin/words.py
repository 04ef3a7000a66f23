"""Names, numbers and lists, as all points want them."""

LETTERS = "abcdefghijklmnopqrstuvwxyz"
SIGNS = "abcdefghijklmnopqrstuvwxyz0123456789"


def is_name(thing):
    """Tell whether thing is a NAME."""
    # The length goes first, so that a long string is not read through.
    if not isinstance(thing, str) or not 1 <= len(thing) <= 8:
        return False
    return thing[0] in LETTERS and all([sign in SIGNS for sign in thing])


def is_number(thing):
    """Tell whether thing is a NUMBER."""
    return isinstance(thing, int) and not isinstance(thing, bool) and thing >= 0


def is_index(thing, many):
    """Tell whether thing is an index of a list of so many."""
    return is_number(thing) and thing < many


def is_list(thing):
    """Tell whether thing can stand where a list is wanted."""
    return isinstance(thing, (list, tuple))


def is_list_of(thing, many):
    """Tell whether thing can stand where a list of so many is wanted."""
    return is_list(thing) and len(thing) == many


def is_one_of(thing, names):
    """Tell whether thing is one of these strings, whatever else it may be."""
    return isinstance(thing, str) and thing in names


def is_pair_key(thing):
    """Tell whether a key of a dict is a pair of NUMBERS: True and 1.0 would pass as keys for 1."""
    return isinstance(thing, tuple) and len(thing) == 2 and is_number(thing[0]) and is_number(thing[1])


def is_path_key(thing):
    """Tell whether a key of a dict is a tuple of NUMBERS."""
    return isinstance(thing, tuple) and all([is_number(index) for index in thing])


def each_once(things):
    """Tell some things that can be ordered, ascending, each once."""
    found = []
    for thing in sorted(things):
        if not found or found[-1] != thing:
            found.append(thing)
    return found
