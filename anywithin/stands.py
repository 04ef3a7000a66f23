"""Records and stands: what they are, and their told form."""

from anywithin.errors import BadMate, BadStand
from anywithin.kinds import need_kinds, need_names
from anywithin.trees import heap_size, told_heap
from anywithin.words import is_list, is_list_of, is_one_of


def is_record(kinds, thing):
    """Tell whether any object is a record of any of these kinds."""
    need_kinds(kinds)
    if not is_list_of(thing, 3) or not is_one_of(thing[0], kinds.all_kinds()):
        return False
    return _record_fault(kinds, kinds.above(thing[0]), thing, ()) is None


def is_record_in(kinds, above, thing):
    """Tell whether any object is a record that may lie directly in a record of the kind above."""
    return _record_fault(kinds, above, thing, ()) is None


def is_stand(kinds, thing):
    """Tell whether any object is a stand."""
    return stand_fault(kinds, thing) is None


def stand_fault(kinds, thing):
    """Tell (why, way) of the first thing that is wrong in any object, None for a stand."""
    need_kinds(kinds)
    if not is_list(thing):
        return ("list", ())
    return _parts_fault(kinds, "", thing, ())


def _parts_fault(kinds, above, things, way):
    for index, thing in enumerate(things):
        fault = _record_fault(kinds, above, thing, (*way, index))
        if fault is not None:
            return fault
    return None


def _record_fault(kinds, above, thing, way):
    if not is_list_of(thing, 3):
        return ("record", way)
    kind, mark, parts = thing
    if not is_one_of(kind, kinds.parts(above)):
        return ("kind", way)
    if not is_one_of(mark, kinds.marks(kind)):
        return ("mark", way)
    if not is_list(parts):
        return ("list", way)
    return _parts_fault(kinds, kind, parts, way)


def stand_index(kinds, thing):
    """Tell the index of the first wrong top of any object, 0 for no list, None for a stand; refuse kinds."""
    fault = stand_fault(kinds, thing)
    if fault is None:
        return None
    return fault[1][0] if fault[1] else 0


def need_stand(kinds, stand):
    """Tell the told form of stand, or refuse kinds or stand."""
    index = stand_index(kinds, stand)
    if index is not None:
        raise BadStand(index)
    return told_heap(stand)


def need_mate_stand(kinds, mate):
    """Tell the told form of the other stand, or refuse kinds or stand."""
    index = stand_index(kinds, mate)
    if index is not None:
        raise BadMate(index)
    return told_heap(mate)


def told_stand(kinds, stand):
    """Tell the told form: tuples throughout, ascending at each level."""
    return need_stand(kinds, stand)


def are_alike(kinds, stand, mate):
    """Tell whether two stands have the same told form."""
    told = need_stand(kinds, stand)
    return told == need_mate_stand(kinds, mate)


def size_of(kinds, stand):
    """Tell how many records there are, at all levels."""
    return heap_size(need_stand(kinds, stand))


def stand_called(kinds, stand, names):
    """Tell the told form of the stand whose kinds and marks are called as names say."""
    told = need_stand(kinds, stand)
    need_names(kinds, names)
    return told_heap(_heap_called(told, names))


def _heap_called(heap, names):
    return [(names[kind], names[mark], _heap_called(parts, names)) for kind, mark, parts in heap]
