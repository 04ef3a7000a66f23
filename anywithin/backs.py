"""One deed back: the stands from which a deed leads to a told stand.

A source says where an other one lay ahead of the deed: an index of who, or, for the top, how many who there are. An
image is what one of who, or of news, is behind the deed: (kind, mark, holder), holder the index of the image in which
it lies, None at the top; those of who have their own indexes, those of news come behind. A state is (indexes of the
images that are free still, pairs of a source and the record of an other one that lay there).
"""

from anywithin.least import least_told
from anywithin.words import each_once


class Back:
    """A told deed, read backwards."""

    def __init__(self, kinds, deed):
        self._kinds = kinds
        self._deed = deed
        self._chains = _chains_of(deed[1])
        self._ways = _turn_ways(deed[1])
        self._kept = {}
        self._marks = {}

    def deed_name(self):
        """Tell the deed's name."""
        return self._deed[0]

    def least_befores(self, heap):
        """Tell the least stands from which the deed leads to a told stand, ascending."""
        return least_told(self.befores(heap))

    def befores(self, heap):
        """Tell stands from which the deed leads to a told stand, the least ones among them, ascending."""
        key = repr(heap)
        if key not in self._kept:
            self._kept[key] = self._all_befores(heap)
        return self._kept[key]

    def _all_befores(self, heap):
        found = []
        for results, choices in self._ways:
            images = _images_of(self._deed, results)
            for _, others in self._laid(images, heap, None, [(tuple(images), ())]):
                found.extend([_before(self._deed[1], marks, others) for marks in choices])
        return each_once(found)

    def _laid(self, images, heap, place, states):
        """Tell the states behind all records of heap, which lie in the image with index place, or at the top."""
        # Records with parts go first: what has none takes any image that they leave.
        for record in reversed(heap):
            states = each_once([after for state in states for after in self._taken(images, record, place, state)])
        return states

    def _taken(self, images, record, place, state):
        """Tell the states behind one record: it is an image, or an other one."""
        free, others = state
        fitting = [index for index in free if images[index] == (record[0], record[1], place)]
        # To have a record without parts beside a free image of its own kind, mark and place is never least.
        if fitting and not record[2]:
            return [(_without(free, fitting[0]), others)]
        found = []
        for index in fitting:
            found.extend(self._laid(images, record[2], index, [(_without(free, index), others)]))
        for source in self._sources(record[0], place):
            for before in self._records_before(record, source):
                found.append((free, tuple(sorted([*others, (source, before)]))))
        return found

    def _sources(self, kind, place):
        """Tell where others of kind lay that lie directly in the image with index place, or at the top."""
        who = self._deed[1]
        if place is None:
            return [len(who)]
        poured = [(index, _index_of(spot, who)) for index, part, spot in self._deed[4] if part == kind]
        found = [index for index, goal in poured if goal == place]
        if place < len(who) and place not in [index for index, _ in poured]:
            found.append(place)
        return found

    def _records_before(self, record, source):
        """Tell what an other one that is record behind the deed may have been ahead of it."""
        kind, mark, parts = record
        key = (kind, mark, source)
        if key not in self._marks:
            self._marks[key] = self._marks_before(kind, mark, source)
        marks = self._marks[key]
        heaps = [()] if marks else []
        for part in parts:
            befores = self._records_before(part, source)
            heaps = each_once([tuple(sorted([*heap, before])) for heap in heaps for before in befores])
        return [(kind, before, heap) for before in marks for heap in heaps]

    def _marks_before(self, kind, mark, source):
        """Tell the marks that asks let by and that are turned to mark, of others of kind."""
        asked = [marks for place, one, marks in self._deed[2] if one == kind and self._falls(place, source)]
        turns = [turn for place, one, turn in self._deed[3] if one == kind and self._falls(place, source)]
        found = []
        for before in self._kinds.marks(kind):
            fitting = [turn[before] for turn in turns if before in turn]
            then = fitting[0] if fitting else before
            if then == mark and all([before in marks for marks in asked]):
                found.append(before)
        return found

    def _falls(self, place, source):
        """Tell whether others of this source, of the right kind, fall under an ask or turn with this place."""
        return place is None or place in self._chains[source]


def _chains_of(who):
    """Tell, for each source, the list of those of who in which what lies there lies."""
    found = []
    for index, (_, lies, _) in enumerate(who):
        found.append([index] if lies is None else [index, *found[lies]])
    return [*found, []]


def _turn_ways(who):
    """Tell the pairs of what becomes of all of who, and the list of the marks by which just that does."""
    ways = [((), [()])]
    for _, _, turn in who:
        goals = []
        for then in list(turn.values()):
            if then not in goals:
                goals.append(then)
        ways = [
            ((*results, goal), [(*marks, mark) for marks in choices for mark in turn if turn[mark] == goal])
            for results, choices in ways for goal in goals
        ]
    return ways


def _index_of(spot, who):
    """Tell the index of the image that a spot names, None for none."""
    if spot is None:
        return None
    return spot[1] if spot[0] == "who" else len(who) + spot[1]


def _images_of(deed, results):
    """Tell a dict from indexes to the images that are there if who become what results say.

    What goes has no mark, so no record is its image, and none comes to be looked for within it.
    """
    who = deed[1]
    moved = {index: spot for index, spot in deed[5]}
    rows = {}
    for index, (kind, lies, _) in enumerate(who):
        holder = _index_of(moved[index], who) if index in moved else lies
        rows[index] = (kind, results[index], holder)
    for index, (kind, mark, spot) in enumerate(deed[6]):
        rows[len(who) + index] = (kind, mark, _index_of(spot, who))
    return rows


def _before(who, marks, others):
    """Tell the stand of who with these marks, and of the others where they lay."""
    top = len(who)
    heaps = [[other for source, other in others if source == at] for at in range(top + 1)]
    for index in reversed(range(top)):
        kind, lies, _ = who[index]
        # What lies in it comes behind it in who, so it is whole by now.
        heaps[top if lies is None else lies].append((kind, marks[index], tuple(sorted(heaps[index]))))
    return tuple(sorted(heaps[top]))


def _without(free, index):
    return tuple([one for one in free if one != index])
