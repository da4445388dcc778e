"""Braids, closed to drawings (point 37)."""

from knotwise.drawings import seated_rows
from knotwise.errors import NoBraid

MOST_LETTERS = 12
MOST_STRANDS = 3


def refuse_no_braid(letters, strands):
    """NoBraid where letters and strands tell no braid."""
    if not 1 <= strands <= MOST_STRANDS:
        raise NoBraid("a braid has one to three strands")
    if len(letters) > MOST_LETTERS:
        raise NoBraid("a braid has at most twelve letters")
    for letter in letters:
        if not 1 <= abs(letter) < strands:
            raise NoBraid("no letter of a braid of so many strands")


def passing_at(name, letter, place):
    """The passing of the strand that a letter takes away from a place."""
    from_right = place == abs(letter) + 1
    way = 0 if from_right == (letter > 0) else 1
    return (name, way, 1 if letter > 0 else -1)


def gone_down(letters, top):
    """A tuple: the passings of the strand from a place at the top, and its place at the bottom."""
    passings = []
    place = top
    for name, letter in enumerate(letters, start=1):
        left = abs(letter)
        if place in (left, left + 1):
            passings.append(passing_at(name, letter, place))
            place = left + 1 if place == left else left
    return (passings, place)


def string_from(letters, top):
    """A tuple: the passings of the string from a place at the top, and the places at the top that it comes by."""
    passings = []
    tops = []
    place = top
    while place not in tops:
        tops.append(place)
        down = gone_down(letters, place)
        passings.extend(down[0])
        place = down[1]
    return (passings, tops)


def closed(letters, strands):
    """The drawing of the braid whose places at the bottom are joined to the same at the top; NoBraid."""
    refuse_no_braid(letters, strands)
    rows = []
    met = []
    for top in range(1, strands + 1):
        if top not in met:
            string = string_from(letters, top)
            rows.append(string[0])
            met.extend(string[1])
    return seated_rows(rows)
