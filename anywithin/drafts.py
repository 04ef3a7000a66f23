"""Deeds that are read line by line, each line one of a deed with those ahead of it."""

from anywithin.reading import with_ends

# In this order the lists of a deed stand in a text.
WORDS = ("who", "new", "ask", "turn", "pour", "move")


class Draft:
    """A deed, as far as it is read."""

    def __init__(self, kinds, name):
        self._kinds = kinds
        self._name = name
        self._rows = {word: [] for word in WORDS}
        self._reached = 0

    def deed(self):
        """Tell the deed of all that was read."""
        rows = self._rows
        return (self._name, rows["who"], rows["ask"], rows["turn"], rows["pour"], rows["move"], rows["new"])

    def starts(self):
        """Tell the words with which a line may begin."""
        there = {
            "who": self._kinds_of_who(),
            "new": self._kinds_of_news(),
            "ask": self._places(False),
            "turn": self._places(True),
            "pour": self._poured_kinds(),
            "move": self._goals(),
        }
        return [word for word in WORDS[self._reached:] if there[word]]

    def read(self, cursor, word):
        """Read the line that begins with this word, behind it."""
        self._reached = WORDS.index(word)
        if word == "who":
            row = self._read_who(cursor)
        elif word == "new":
            row = self._read_new(cursor)
        elif word == "ask":
            row = self._read_ask(cursor)
        elif word == "turn":
            row = self._read_turns(cursor)
        elif word == "pour":
            row = self._read_pour(cursor)
        else:
            row = self._read_move(cursor)
        self._rows[word].append(row)

    def _held(self):
        """Tell the kinds of who."""
        return [row[0] for row in self._rows["who"]]

    def _kinds_of_who(self):
        """Tell the kinds that one more of who may have."""
        return [kind for kind in self._kinds.all_kinds() if self._kinds.above(kind) in ["", *self._held()]]

    def _kinds_of_news(self):
        """Tell the kinds that one more of news may have."""
        kinds = self._kinds
        return [kind for kind in kinds.all_kinds() if kinds.above(kind) == "" or self._spots(kinds.above(kind))]

    def _spots(self, kind):
        """Tell a dict from words to the spots of this kind."""
        found = {}
        for index, one in enumerate(self._held()):
            if one == kind:
                found[f"w{index}"] = ("who", index)
        for index, row in enumerate(self._rows["new"]):
            if row[0] == kind:
                found[f"n{index}"] = ("new", index)
        return found

    def _places(self, lasting):
        """Tell a dict from the words for places to the kinds there, also lasting ones or not."""
        kinds = self._kinds
        found = {"all": kinds.all_kinds()}
        for index, held in enumerate(self._held()):
            found[str(index)] = kinds.within(held)
        fitting = {word: [kind for kind in found[word] if lasting or not kinds.lasts(kind)] for word in found}
        return {word: fitting[word] for word in fitting if fitting[word]}

    def _poured_kinds(self):
        """Tell a dict from the indexes, as words, of who from which one more pour may be to the kinds of it."""
        poured = [(index, kind) for index, kind, _ in self._rows["pour"]]
        found = {}
        for index, held in enumerate(self._held()):
            fitting = [kind for kind in self._kinds.parts(held) if (index, kind) not in poured]
            if fitting and self._spots_beside(index):
                found[str(index)] = fitting
        return found

    def _spots_beside(self, index):
        """Tell a dict from words to the spots of the kind of this one of who that are not itself."""
        spots = self._spots(self._held()[index])
        return {word: spots[word] for word in spots if spots[word] != ("who", index)}

    def _goals(self):
        """Tell a dict from the indexes, as words, of who that one more move may have to their spots by words."""
        moved = [index for index, _ in self._rows["move"]]
        found = {}
        for index, held in enumerate(self._held()):
            above = self._kinds.above(held)
            if above != "" and index not in moved and self._spots(above):
                found[str(index)] = self._spots(above)
        return found

    def _read_who(self, cursor):
        kind = cursor.one_of(with_ends(self._kinds_of_who(), " "))[:-1]
        above = self._kinds.above(kind)
        lies = None
        if above == "":
            cursor.one_of(["top "])
        else:
            fitting = [str(index) for index, held in enumerate(self._held()) if held == above]
            lies = int(cursor.one_of(with_ends(fitting, " "))[:-1])
        return (kind, lies, _read_turn(cursor, self._kinds.marks(kind)))

    def _read_new(self, cursor):
        kind = cursor.one_of(with_ends(self._kinds_of_news(), " "))[:-1]
        mark = cursor.one_of(with_ends(self._kinds.marks(kind), " "))[:-1]
        above = self._kinds.above(kind)
        if above == "":
            cursor.one_of(["top\n"])
            return (kind, mark, None)
        return (kind, mark, _read_spot(cursor, self._spots(above)))

    def _read_ask(self, cursor):
        place, kinds = _read_place(cursor, self._places(False))
        word = cursor.one_of(with_ends(kinds, " \n"))
        kind = word[:-1]
        marks = []
        while word[-1] == " ":
            left = [mark for mark in self._kinds.marks(kind) if mark not in marks]
            word = cursor.one_of(with_ends(left, " \n" if len(left) > 1 else "\n"))
            marks.append(word[:-1])
        return (place, kind, marks)

    def _read_turns(self, cursor):
        place, kinds = _read_place(cursor, self._places(True))
        kind = cursor.one_of(with_ends(kinds, " "))[:-1]
        return (place, kind, _read_turn(cursor, self._kinds.marks(kind)))

    def _read_pour(self, cursor):
        index, kinds = _read_place(cursor, self._poured_kinds())
        kind = cursor.one_of(with_ends(kinds, " "))[:-1]
        return (index, kind, _read_spot(cursor, self._spots_beside(index)))

    def _read_move(self, cursor):
        index, spots = _read_place(cursor, self._goals())
        return (index, _read_spot(cursor, spots))


def _read_place(cursor, places):
    """Read one of the words of a dict and a blank; tell what place it says, and what the dict has for it."""
    word = cursor.one_of(with_ends(places, " "))[:-1]
    return (None if word == "all" else int(word)), places[word]


def _read_spot(cursor, spots):
    """Read the word of a spot and the end of the line; tell the spot."""
    return spots[cursor.one_of(with_ends(spots, "\n"))[:-1]]


def _read_turn(cursor, marks):
    """Read a turn of these marks and the end of the line."""
    turn = {}
    left = marks
    end = " "
    while end == " ":
        mark = cursor.one_of(with_ends(left, ">"))[:-1]
        left = [one for one in left if one != mark]
        word = cursor.one_of(with_ends([*marks, "-"], " \n" if left else "\n"))
        turn[mark] = None if word[:-1] == "-" else word[:-1]
        end = word[-1]
    return turn
