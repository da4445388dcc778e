"""Sides of stretches, regions, pieces, and what can be drawn flat (points 11 to 15, near of 22)."""

from knotwise.drawings import hand_of, names_of, next_of, spots_of, string_of
from knotwise.groups import grouped, together


def left_of(spot):
    """The left side of a stretch."""
    return (spot[0], spot[1], 0)


def right_of(spot):
    """The right side of a stretch."""
    return (spot[0], spot[1], 1)


def sides_of(drawing):
    """The sorted sides of all stretches."""
    sides = []
    for spot in spots_of(drawing):
        sides.append(left_of(spot))
        sides.append(right_of(spot))
    return sides


def coming_of(drawing):
    """For each passing the spot of the stretch that comes to it."""
    behind = next_of(drawing)
    coming = {}
    for spot in behind:
        coming[behind[spot]] = spot
    return coming


def corners_at(coming, first, second):
    """The pairs of sides that meet at a crossing; with hand 1 first is its over passing."""
    first_coming = coming[first]
    second_coming = coming[second]
    return [
        (right_of(first_coming), left_of(second_coming)),
        (right_of(second_coming), right_of(first)),
        (left_of(first), right_of(second)),
        (left_of(second), left_of(first_coming)),
    ]


def corners_of(drawing):
    """The pairs of sides that meet at a corner."""
    coming = coming_of(drawing)
    corners = []
    for name in names_of(drawing):
        # Seen from above, the other hand is the same cross with over and under changed.
        if hand_of(drawing, name) == 1:
            corners.extend(corners_at(coming, (name, 0), (name, 1)))
        else:
            corners.extend(corners_at(coming, (name, 1), (name, 0)))
    return corners


def regions(drawing):
    """The sides by their regions."""
    return grouped(sides_of(drawing), corners_of(drawing))


def pieces(drawing):
    """The strings' numbers by what hangs together."""
    crossed = [(string_of(drawing, (name, 0)), string_of(drawing, (name, 1))) for name in names_of(drawing)]
    return grouped(list(range(len(drawing))), crossed)


def flat(drawing):
    """Whether each piece can be drawn on a plane without other crossings."""
    return len(regions(drawing)) == len(names_of(drawing)) + 2 * len(pieces(drawing))


def near(drawing, over, under, turned, hand):
    """Whether a lay there brings together two sides of one region, or strings of different pieces."""
    over_string = string_of(drawing, over)
    under_string = string_of(drawing, under)
    if not together(pieces(drawing), over_string, under_string):
        return True
    return together(regions(drawing), over_side(over, turned, hand), under_side(under, hand))


def over_side(spot, turned, hand):
    """The side that a lay turns to the stretch below it."""
    if (hand == 1 and turned == 1) or (hand == -1 and turned == 0):
        return left_of(spot)
    return right_of(spot)


def under_side(spot, hand):
    """The side over which a lay comes."""
    if hand == 1:
        return left_of(spot)
    return right_of(spot)
