"""The line of a stand, or of a beginning."""

from anywithin.reading import with_ends


def line_of(heap):
    """Tell the line of a told stand, or of a told beginning."""
    return _words_of(heap, " ") + "\n"


def _words_of(heap, between):
    return between.join([_word_of(row) for row in heap])


def _word_of(row):
    """Tell the word of a record, or of a seed, which says last whether it has many."""
    kind, mark, parts = row[:3]
    star = "*" if row[3:] == (True,) else ""
    inner = "(" + _words_of(parts, ",") + ")" if parts else ""
    return f"{star}{kind}:{mark}{inner}"


def read_line(cursor, kinds, starred):
    """Read the line of a stand, or, if it may have stars, of a beginning; tell its records, or seeds."""
    if cursor.skips("\n"):
        return []
    return _read_words(cursor, kinds, "", starred)


def _read_words(cursor, kinds, above, starred):
    """Read the words of what lies directly in above, and the sign that ends them."""
    between, end = (" ", "\n") if above == "" else (",", ")")
    found = []
    sign = between
    while sign == between:
        row, sign = _read_word(cursor, kinds, above, starred, [between, end])
        found.append(row)
    return found


def _read_word(cursor, kinds, above, starred, ends):
    """Read the word of a record, or seed, and one of the signs that may end it; tell both."""
    starts = with_ends(kinds.parts(above), ":")
    word = cursor.one_of([*starts, "*"] if starred and starts else starts)
    many = word == "*"
    kind = (cursor.one_of(starts) if many else word)[:-1]
    # There is something in brackets, so they only stand where something may lie.
    word = cursor.one_of(with_ends(kinds.marks(kind), [*ends, "("] if kinds.parts(kind) else ends))
    mark, sign = word[:-1], word[-1]
    parts = []
    if sign == "(":
        parts = _read_words(cursor, kinds, kind, starred)
        sign = cursor.one_of(ends)
    return ((kind, mark, parts, many) if starred else (kind, mark, parts)), sign
