"""Beds and beginnings; the greatest beginnings from which what is asked never comes."""

from anywithin.bedding import told_bed_of
from anywithin.beds import need_bed, seeds_of_bed
from anywithin.beginnings import need_beginning, told_seeds
from anywithin.planting import garden_told
from anywithin.rounds import least_leading


def bed_of(kinds, beginning):
    """Tell the told bed that says what beginning says."""
    return told_bed_of(_bed_of_seeds(need_beginning(kinds, beginning)))


def _bed_of_seeds(seeds):
    """Tell the bed that has a place for each seed."""
    some = [(kind, mark, _bed_of_seeds(inner)) for kind, mark, inner, many in seeds if not many]
    return (some, [(kind, mark, _bed_of_seeds(inner)) for kind, mark, inner, many in seeds if many])


def beginning_of(kinds, bed):
    """Tell the beginning that has a seed for each place of bed."""
    need_bed(kinds, bed)
    return told_seeds(seeds_of_bed(bed))


def safe_beginnings(plan, asked):
    """Tell all greatest beginnings from which what is asked never comes."""
    leading = least_leading(plan, asked)
    return [told_seeds(seeds_of_bed(bed)) for bed in garden_told(plan.kinds(), "", leading)]
