"""Told stands of which it is asked again and again whether one of them lies in another stand."""

from anywithin.fitting import fits_in

# So many bits has a count; the uppermost of them is kept free, and counts above MOST are taken for MOST.
BITS = 16
MOST = 32767


class Beneath:
    """Some told stands, made ready for being compared with many others.

    What lies in another stand has of each kind and mark, in what it lies, at most as many records as that one. These
    counts stand side by side in one int, so that most stands are told apart by one difference.
    """

    def __init__(self, heaps):
        counts = [_counts_of(heap) for heap in heaps]
        places = {}
        for one in counts:
            for way in one:
                places.setdefault(way, BITS * len(places))
        self._places = places
        self._guard = sum([(MOST + 1) << place for place in list(places.values())])
        self._rows = [(self._packed(one), heap) for one, heap in zip(counts, heaps)]

    def _packed(self, counts):
        """Tell the counts of all that these stands have, as one int."""
        return sum([min(counts[way], MOST) << self._places[way] for way in counts if way in self._places])

    def has_above(self, heap):
        """Tell whether one of these stands lies in a told stand."""
        guarded = self._packed(_counts_of(heap)) + self._guard
        for packed, less in self._rows:
            # Where less has more of something the difference takes that guard away.
            if (guarded - packed) & self._guard == self._guard and fits_in(less, heap):
                return True
        return False


def _counts_of(heap):
    """Tell how many records there are of each kind and mark within each row of kinds and marks."""
    counts = {}
    _count(counts, heap, "")
    return counts


def _count(counts, heap, way):
    for kind, mark, parts in heap:
        here = f"{way}{kind} {mark} "
        counts[here] = counts.get(here, 0) + 1
        if parts:
            _count(counts, parts, here)
