"""Drawings made of others (points 33 to 36)."""

from knotwise.drawings import MOST_CROSSINGS, MOST_STRINGS, names_of, seated_rows, spots_on, string_of
from knotwise.errors import NoString, TooMany
from knotwise.moves import renamed_spot, with_put


def switched_row(row):
    """The row with the other ways and hands."""
    return [(name, 1 - way, -hand) for name, way, hand in row]


def switched(drawing):
    """Each passing with the other way and the other hand."""
    return seated_rows([switched_row(row) for row in drawing])


def reflected_row(row):
    """The row with the other hands."""
    return [(name, way, -hand) for name, way, hand in row]


def reflected(drawing):
    """Each passing with the other hand."""
    return seated_rows([reflected_row(row) for row in drawing])


def crossed_once(row):
    """The names whose crossings have one passing alone in the row."""
    names = [passing[0] for passing in row]
    return [name for name in names if names.count(name) == 1]


def turned_row(row, names):
    """The row with the other hands at the crossings of these names."""
    return [(name, way, -hand if name in names else hand) for name, way, hand in row]


def run_back(drawing, string):
    """The drawing with one string gone along the other way; NoString."""
    if not 0 <= string < len(drawing):
        raise NoString("no string has this number")
    names = crossed_once(drawing[string])
    rows = [turned_row(row, names) for row in drawing]
    rows[string] = list(reversed(rows[string]))
    return seated_rows(rows)


def refuse_many(strings, crossings):
    """TooMany where a drawing of so many would be none."""
    if strings > MOST_STRINGS or crossings > MOST_CROSSINGS:
        raise TooMany("more strings or crossings than a drawing has")


def numbering(drawing, start):
    """For each name, rising, a number, going on behind start."""
    numbers = {}
    for number, name in enumerate(names_of(drawing), start=start + 1):
        numbers[name] = number
    return numbers


def renamed_row(row, names):
    """The row with other names."""
    return [(names[name], way, hand) for name, way, hand in row]


def renamed_rows(drawing, names):
    """The rows with other names."""
    return [renamed_row(row, names) for row in drawing]


def beside(one, other):
    """Both drawings as one, with new names; TooMany."""
    names = numbering(one, 0)
    other_names = numbering(other, len(names))
    refuse_many(len(one) + len(other), len(names) + len(other_names))
    return seated_rows(renamed_rows(one, names) + renamed_rows(other, other_names))


def ring_behind(drawing, spot):
    """The passings of the spot's string, from the one behind the spot round to the spot's own; NoSpot."""
    string = string_of(drawing, spot)
    row = drawing[string]
    start = spots_on(row, string).index(spot) + 1
    return row[start:] + row[:start]


def tied(one, spot, other, other_spot):
    """Both drawings as one, a string of each tied together at the spots; TooMany, then NoSpot."""
    names = numbering(one, 0)
    other_names = numbering(other, len(names))
    refuse_many(len(one) + len(other) - 1, len(names) + len(other_names))
    # A spot that is none could be one by the new names, so both are asked by the old ones.
    string_of(one, spot)
    string = string_of(other, other_spot)
    put_in = renamed_row(ring_behind(other, other_spot), other_names)
    rows = with_put(renamed_rows(one, names), renamed_spot(spot, names), put_in)
    others = renamed_rows(other[:string] + other[string + 1:], other_names)
    return seated_rows(rows + others)
