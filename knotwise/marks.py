"""Writhe, linking and the levelled bracket (point 27)."""

from knotwise.brackets import bracket
from knotwise.drawings import hand_of, names_of, string_of
from knotwise.polys import shifted


def writhe(drawing):
    """The sum of all crossings' hands."""
    return sum([hand_of(drawing, name) for name in names_of(drawing)])


def linking(drawing):
    """For each string a row: for each string the sum of the hands where the first passes over it, 0 for itself."""
    sums = []
    for string in drawing:
        sums.append([0 for other in drawing])
    for name in names_of(drawing):
        above = string_of(drawing, (name, 0))
        below = string_of(drawing, (name, 1))
        if above != below:
            sums[above][below] = sums[above][below] + hand_of(drawing, name)
    return sums


def levelled(drawing):
    """The bracket, freed of what curls do to it."""
    turns = writhe(drawing)
    sign = 1 if turns % 2 == 0 else -1
    return shifted(bracket(drawing), -3 * turns, sign)
