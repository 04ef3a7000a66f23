"""Told heaps of records in told seeds: to which seed each goes, or what lacks."""

from anywithin.fitting import are_same
from anywithin.matching import matched


def sown(seeds, records):
    """Tell (places, None), places a (seed, inner places) for each record; or (None, lack)."""
    inner, lacks = {}, {}
    places = []
    scarce = []
    for index, record in enumerate(records):
        found = []
        for at, seed in enumerate(seeds):
            if are_same(record, seed):
                inner[(index, at)], lacks[(index, at)] = sown(seed[2], record[2])
                if inner[(index, at)] is not None:
                    found.append(at)
        free = [at for at in found if seeds[at][3]]
        places.append(free[0] if free else None)
        # Only those that no seed with many takes ask for one that takes no other.
        if not free:
            scarce.append((index, found))
    led, short = matched([found for _, found in scarce])
    if led is None:
        return None, _lack_of(short, [index for index, _ in scarce], lacks)
    for at, (index, _) in enumerate(scarce):
        places[index] = led[at]
    return [(at, inner[(index, at)]) for index, at in enumerate(places)], None


def _lack_of(short, scarce, lacks):
    """Tell the lack that a short matching of these records shows."""
    mine = [scarce[at] for at in short[0]]
    theirs = short[1]
    kept = [pair for pair in sorted(lacks) if pair[0] in mine and pair[1] not in theirs]
    return (mine, theirs, {pair: lacks[pair] for pair in kept})


def is_sown(seeds, records):
    """Tell whether the records lie in the seeds."""
    return sown(seeds, records)[0] is not None
