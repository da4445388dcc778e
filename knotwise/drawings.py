"""Drawings: rows of passings, looked through and asked (points 4 to 8)."""

from knotwise.errors import NoDrawing, NoName, NoSpot

MOST_STRINGS = 3
MOST_CROSSINGS = 12
GREATEST_NAME = 999


def passings_of(rows):
    """All passings, string by string."""
    passings = []
    for row in rows:
        passings.extend(row)
    return passings


def seated(row):
    """The row, begun with its least passing."""
    if not row:
        return []
    start = row.index(min(row))
    return row[start:] + row[:start]


def seated_rows(rows):
    """The rows, each begun with its least passing."""
    return [seated(row) for row in rows]


def checked(rows):
    """The drawing that the rows are; NoDrawing where they are none."""
    if not 1 <= len(rows) <= MOST_STRINGS:
        raise NoDrawing("strings", len(rows))
    refuse_names(hands_met(rows))
    return seated_rows(rows)


def hands_met(rows):
    """The hand of each (name, way); NoDrawing at the first passing with a fault of its own."""
    hands = {}
    for place, passing in enumerate(passings_of(rows)):
        word = fault_of(passing, hands)
        if word is not None:
            raise NoDrawing(word, place)
        hands[passing[:2]] = passing[2]
    return hands


def fault_of(passing, hands):
    """The word for what is wrong with a passing behind those already met, or None."""
    if not 1 <= passing[0] <= GREATEST_NAME:
        return "name"
    if passing[1] not in (0, 1):
        return "way"
    if passing[2] not in (1, -1):
        return "hand"
    if passing[:2] in hands:
        return "twice"
    return None


def refuse_names(hands):
    """NoDrawing where the passings of a name don't belong together, or the names are too many."""
    names = sorted(set([spot[0] for spot in hands]))
    for name in names:
        if (name, 0) not in hands or (name, 1) not in hands:
            raise NoDrawing("lone", name)
        if hands[(name, 0)] != hands[(name, 1)]:
            raise NoDrawing("hands", name)
    if len(names) > MOST_CROSSINGS:
        raise NoDrawing("many", len(names))


def names_of(drawing):
    """The sorted names of the crossings."""
    return sorted([passing[0] for passing in passings_of(drawing) if passing[1] == 0])


def hand_of(drawing, name):
    """The hand of the crossing with that name."""
    for passing in passings_of(drawing):
        if passing[0] == name:
            return passing[2]
    raise NoName("no crossing has this name")


def spots_on(row, string):
    """The spots of one string, in the order of its row."""
    if not row:
        return [(string, 2)]
    return [passing[:2] for passing in row]


def spots_of(drawing):
    """The sorted spots of all stretches."""
    spots = []
    for string, row in enumerate(drawing):
        spots.extend(spots_on(row, string))
    return sorted(spots)


def next_of(drawing):
    """For each passing (name, way) the (name, way) of the one behind it in its ring."""
    behind = {}
    for row in drawing:
        # A row begun one passing later holds at each place what is next there.
        for passing, follower in zip(row, row[1:] + row[:1]):
            behind[passing[:2]] = follower[:2]
    return behind


def string_of(drawing, spot):
    """The number of the string on which the spot lies."""
    for string, row in enumerate(drawing):
        if spot in spots_on(row, string):
            return string
    raise NoSpot("the drawing has no such spot")
