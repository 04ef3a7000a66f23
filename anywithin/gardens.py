"""Gardens: the greatest beds in which none of some stands lies; and the least stands in none of some beds."""

from anywithin.bedding import is_bed_within, told_bed_of
from anywithin.beds import is_bed, need_beds, seeds_of_bed
from anywithin.least import is_above_told, need_stands
from anywithin.planting import garden_told, wall_told
from anywithin.sowings import is_sown
from anywithin.words import is_list


def garden_of(kinds, stands):
    """Tell the greatest beds in which none of stands lies, ascending."""
    return garden_told(kinds, "", need_stands(kinds, stands))


def wall_of(kinds, beds):
    """Tell the least stands that lie in none of beds, ascending."""
    return wall_told(kinds, "", need_beds(kinds, beds))


def garden_fault(kinds, stands, thing):
    """Tell what is first wrong in any object, None for the garden of stands, in whatever order and form."""
    heaps = need_stands(kinds, stands)
    if not is_list(thing):
        return ("form", 0)
    for index, bed in enumerate(thing):
        if not is_bed(kinds, bed):
            return ("form", index)
    for index, bed in enumerate(thing):
        seeds = seeds_of_bed(bed)
        for at, heap in enumerate(heaps):
            if is_sown(seeds, heap):
                return ("bed", index, at)
    beds = [told_bed_of(bed) for bed in thing]
    for index, bed in enumerate(beds):
        for at, other in enumerate(beds):
            if at != index and is_bed_within(bed, other):
                return ("within", index, at)
    for heap in wall_told(kinds, "", beds):
        if not is_above_told(heaps, heap):
            return ("lacks", heap)
    return None
