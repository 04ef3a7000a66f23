"""Beds: what some take at most one of, and many any number of."""

from anywithin.bedding import greatest_told, is_bed_within, met_beds, told_bed_of
from anywithin.kinds import need_kinds
from anywithin.refusals import BadBed, BadBeds, BadCover
from anywithin.sowings import is_sown
from anywithin.stands import need_stand
from anywithin.words import is_list, is_list_of, is_one_of


def is_bed(kinds, thing):
    """Tell whether any object is a bed."""
    need_kinds(kinds)
    return _is_bed_in(kinds, "", thing)


def _is_bed_in(kinds, above, thing):
    if not is_list_of(thing, 2) or not is_list(thing[0]) or not is_list(thing[1]):
        return False
    return all([_is_place(kinds, above, place) for places in thing for place in places])


def _is_place(kinds, above, thing):
    if not is_list_of(thing, 3):
        return False
    kind, mark, bed = thing
    if not is_one_of(kind, kinds.parts(above)) or not is_one_of(mark, kinds.marks(kind)):
        return False
    return _is_bed_in(kinds, kind, bed)


def need_bed(kinds, bed):
    """Refuse kinds or bed."""
    if not is_bed(kinds, bed):
        raise BadBed(bed)


def need_beds(kinds, beds):
    """Tell the told forms of a list of beds, or refuse kinds or list."""
    need_kinds(kinds)
    if not is_list(beds):
        raise BadBeds(0)
    for index, bed in enumerate(beds):
        if not is_bed(kinds, bed):
            raise BadBeds(index)
    return [told_bed_of(bed) for bed in beds]


def in_bed(kinds, bed, stand):
    """Tell whether stand lies in bed."""
    need_bed(kinds, bed)
    return is_sown(seeds_of_bed(bed), need_stand(kinds, stand))


def seeds_of_bed(bed):
    """Tell the seeds of a bed: one for each place."""
    some, many = bed
    return [*_seeds_of_places(some, False), *_seeds_of_places(many, True)]


def _seeds_of_places(places, many):
    return [(kind, mark, seeds_of_bed(inner), many) for kind, mark, inner in places]


def bed_within(kinds, bed, cover):
    """Tell whether each stand that lies in bed lies in cover."""
    _need_both(kinds, bed, cover)
    return is_bed_within(bed, cover)


def _need_both(kinds, bed, cover):
    need_bed(kinds, bed)
    if not is_bed(kinds, cover):
        raise BadCover(cover)


def told_bed(kinds, bed):
    """Tell the one form of all beds in which the same stands lie."""
    need_bed(kinds, bed)
    return told_bed_of(bed)


def greatest_beds(kinds, beds):
    """Tell the told forms of those of beds that are within no unlike other one, ascending, each once."""
    return greatest_told(need_beds(kinds, beds))


def beds_met(kinds, bed, cover):
    """Tell the greatest beds that are within both, ascending."""
    _need_both(kinds, bed, cover)
    return met_beds(told_bed_of(bed), told_bed_of(cover))
