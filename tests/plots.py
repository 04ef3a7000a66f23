"""Beds at random, and plain looks at them, that the tests of section 21 share."""

import itertools

from anywithin.kinds import Kinds

# One level and three marks; two levels with two pairs at each, with four, with kinds beside one another.
ONE = Kinds([("order", "", ["new", "paid"], False)])
LEVEL = Kinds([("egg", "", ["a", "b", "c"], False)])
PAIRS = Kinds([("box", "", ["a", "b"], False), ("egg", "box", ["x", "y"], False)])
SHOPS = Kinds([("shop", "", ["open", "shut"], False), ("order", "shop", ["new", "paid"], False)])
FOUR = Kinds([("box", "", ["a", "b"], False), ("van", "", ["a", "v"], True), ("egg", "box", ["x", "y"], False),
              ("fig", "box", ["x"], False), ("gum", "van", ["g"], False)])
DEEP = Kinds([("box", "", ["a"], False), ("cup", "box", ["c", "d"], False), ("egg", "cup", ["x", "y"], False)])
E = ((), ())


def plain_in_bed(bed, heap):
    """Whether a stand lies in a bed, by a trial of all ways."""
    some, many = bed
    places = [*[(place, False) for place in some], *[(place, True) for place in many]]
    fitting = []
    for record in heap:
        fitting.append([
            index for index, (place, _) in enumerate(places)
            if tuple(place[:2]) == tuple(record[:2]) and plain_in_bed(place[2], record[2])
        ])
    for way in itertools.product(*fitting):
        if all(places[index][1] or way.count(index) == 1 for index in way):
            return True
    return False


def random_bed(chance, kinds, most, above="", inner=None):
    """A bed of at most so many places in each list, in lists, inner in those within."""
    fitting = kinds.parts(above)

    def places():
        found = []
        for _ in range(chance.randint(0, most) if fitting else 0):
            kind = chance.choice(fitting)
            found.append([kind, chance.choice(kinds.marks(kind)), random_bed(chance, kinds, most if inner is None else inner, kind)])
        return found

    return [places(), places()]


def mixed(chance, bed):
    """The same bed in another order and in lists."""
    found = [[[place[0], place[1], mixed(chance, place[2])] for place in places] for places in bed]
    for places in found:
        chance.shuffle(places)
    return found


def is_told(bed):
    """Whether a bed has the form of a told one, but for what is within what."""
    return isinstance(bed, tuple) and len(bed) == 2 and all(
        isinstance(places, tuple) and list(places) == sorted(places)
        and all(isinstance(place, tuple) and is_told(place[2]) for place in places) for places in bed)


def sprouts(bed, many):
    """The greatest stand in a bed with so many records in each place of many."""
    found = [(kind, mark, sprouts(inner, many)) for kind, mark, inner in bed[0]]
    found += [(kind, mark, sprouts(inner, many)) for kind, mark, inner in bed[1]] * many
    return tuple(sorted(found))


def places_in(bed):
    """How many places a bed has in all."""
    return sum(1 + places_in(place[2]) for places in bed for place in places)


def plain_within(bed, cover):
    """Whether each stand that lies in bed lies in cover: whether a great enough one does."""
    return plain_fits(sprouts(bed, 1 + max([len(cover[0])] + [len(place[2][0]) for places in cover for place in places])), cover)


def plain_fits(heap, bed):
    """Whether a great stand lies in a bed: alike records go to alike places, so few ways are tried."""
    free = []
    for record in heap:
        if not any(place[0] == record[0] and place[1] == record[1] and plain_fits(record[2], place[2]) for place in bed[1]):
            free.append(record)
    if len(free) > len(bed[0]):
        return False
    for way in itertools.permutations(bed[0], len(free)):
        if all(place[0] == record[0] and place[1] == record[1] and plain_fits(record[2], place[2])
               for place, record in zip(way, free)):
            return True
    return False
