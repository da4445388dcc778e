"""The marks by their words, and verdicts of two drawings (points 43 and 44)."""

from knotwise.colours import count_colourings
from knotwise.errors import NoMark
from knotwise.marks import levelled, linking
from knotwise.search import back_row, key_of, reach


def strings_mark(drawing):
    """The number of strings."""
    return len(drawing)


def linking_mark(drawing):
    """The linking."""
    return linking(drawing)


def colours_3_mark(drawing):
    """The number of colourings by 3."""
    return count_colourings(drawing, 3)


def colours_5_mark(drawing):
    """The number of colourings by 5."""
    return count_colourings(drawing, 5)


def colours_7_mark(drawing):
    """The number of colourings by 7."""
    return count_colourings(drawing, 7)


def bracket_mark(drawing):
    """The levelled bracket."""
    return levelled(drawing)


# In the order in which a verdict asks for them.
MARKS = {
    "strings": strings_mark,
    "linking": linking_mark,
    "colours 3": colours_3_mark,
    "colours 5": colours_5_mark,
    "colours 7": colours_7_mark,
    "bracket": bracket_mark,
}


def mark_by(word):
    """The function of one drawing that tells the mark; NoMark."""
    if word not in MARKS:
        raise NoMark("no mark has this word")
    return MARKS[word]


def all_marks(drawing):
    """All marks of the drawing, by their words."""
    told = {}
    for word in MARKS:
        told[word] = mark_by(word)(drawing)
    return told


def rows_to_common(one, other, length):
    """Tuples of two rows, one from each drawing, for all that both reach; NoLength, TooMany."""
    row_to = {}
    for drawing, row in reach(one, length):
        row_to[key_of(drawing)] = row
    rows = []
    for drawing, row in reach(other, length):
        if key_of(drawing) in row_to:
            rows.append((row_to[key_of(drawing)], row))
    return rows


def unlike_mark(one, other):
    """A tuple: the word of the first mark that is unlike, and what it is for each; or None."""
    for word in MARKS:
        mark = mark_by(word)(one)
        other_mark = mark_by(word)(other)
        if mark != other_mark:
            return (word, mark, other_mark)
    return None


def verdict(one, other, length=2):
    """Whether the drawings are alike, with a row; else apart, with a mark; else open. NoLength, TooMany."""
    rows = rows_to_common(one, other, length)
    if rows:
        shortest = min(rows, key=lambda both: len(both[0]) + len(both[1]))
        return ("alike", shortest[0] + back_row(other, shortest[1]))
    unlike = unlike_mark(one, other)
    if unlike is not None:
        return ("apart",) + unlike
    return ("open",)
