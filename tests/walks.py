"""Moves by the words of the document, and rows of moves taken by chance, the same each time."""

from itertools import permutations
from random import Random

from knotwise.drawings import checked, names_of, spots_of, string_of


def put(rows, spot, passings):
    row = rows[string_of(rows, spot)]
    place = 0 if spot[1] == 2 else [passing[:2] for passing in row].index(spot) + 1
    row[place:place] = passings


def laid(drawing, over, under, turned, hand, names=None):
    """The drawing after a lay of two new crossings, by point 17."""
    last = max([0] + names_of(drawing))
    first, second = names or (last + 1, last + 2)
    rows = [list(row) for row in drawing]
    put(rows, over, [(first, 0, hand), (second, 0, -hand)])
    unders = [(first, 1, hand), (second, 1, -hand)]
    put(rows, under, unders if turned == 0 else unders[::-1])
    return checked(rows)


def lays(drawing):
    """All (over, under, turned, hand) of lays that can be done at spots of the drawing."""
    for over in spots_of(drawing):
        for under in spots_of(drawing):
            if over != under or over[1] != 2:
                for turned in (0, 1):
                    for hand in (1, -1):
                        yield over, under, turned, hand


def all_lays(drawing, j, k):
    """The tuples of all lays that can be done with these new names, behind (k, 0) too."""
    for over, under, turned, hand in lays(drawing):
        yield ("lay", j, k, over, under, turned, hand)
    for over in spots_of(drawing):
        for turned in (0, 1):
            for hand in (1, -1):
                yield ("lay", j, k, over, (k, 0), turned, hand)


def all_curls(drawing, k):
    """The tuples of all curls that can be done with this new name."""
    for spot in spots_of(drawing):
        for first in (0, 1):
            for hand in (1, -1):
                yield ("curl", k, spot, first, hand)


def next_in(drawing):
    behind = {}
    for row in drawing:
        for place, passing in enumerate(row):
            behind[passing[:2]] = row[(place + 1) % len(row)][:2]
    return behind


def fits(drawing, told):
    """Whether an uncurl, part or slide fits, by point 17."""
    return fits_by(next_in(drawing), hands_in(drawing), told)


def hands_in(drawing):
    return {name: hand for row in drawing for name, way, hand in row}


def fits_by(behind, hand_by, told):
    def beside(one, other):
        return behind[one] == other or behind[other] == one

    if told[0] == "uncurl":
        return beside((told[1], 0), (told[1], 1))
    if told[0] == "part":
        j, k = told[1:]
        return beside((j, 0), (k, 0)) and beside((j, 1), (k, 1)) and hand_by[j] != hand_by[k]
    a, b, c, t = told[1:]
    hands = [hand_by[name] for name in (a, b, c)]
    pairs = [((a, 0), (b, 0), t), ((a, 1), (c, 0), t * hands[1] * hands[2]), ((b, 1), (c, 1), t * hands[0] * hands[2])]
    return all(behind[one] == other if turn == 1 else behind[other] == one for one, other, turn in pairs)


def fitting(drawing):
    """The sorted tuples of all moves that add no crossing and fit, each part both ways about."""
    names = names_of(drawing)
    told = [("uncurl", name) for name in names]
    told.extend(("part", j, k) for j, k in permutations(names, 2))
    told.extend(("slide", a, b, c, t) for a, b, c in permutations(names, 3) for t in (1, -1))
    behind, hand_by = next_in(drawing), hands_in(drawing)
    return sorted(one for one in told if fits_by(behind, hand_by, one))


def triangle(turn, hands, names=(1, 2, 3)):
    """The three pairs of passings that point 17 asks for a slide of these names with this turn."""
    a, b, c = [(name, hand) for name, hand in zip(names, hands)]
    pairs = [[(a[0], 0, a[1]), (b[0], 0, b[1])], [(a[0], 1, a[1]), (c[0], 0, c[1])],
             [(b[0], 1, b[1]), (c[0], 1, c[1])]]
    turns = [turn, turn * b[1] * c[1], turn * a[1] * c[1]]
    return [pair if one == 1 else pair[::-1] for pair, one in zip(pairs, turns)]


def some_move(drawing, chance, most):
    """The tuple of a move that can be done, or None where the one picked can't."""
    free = [name for name in range(1, 1000) if name not in names_of(drawing)]
    j, k = chance.sample(free[:20] + free[-5:], 2)
    room = most - len(names_of(drawing))
    kind = chance.choice(["curl", "lay", "lay", "less", "less", "slide"])
    if kind == "curl" and room >= 1:
        return chance.choice(list(all_curls(drawing, k)))
    if kind == "lay" and room >= 2:
        return chance.choice(list(all_lays(drawing, j, k)))
    told = [one for one in fitting(drawing) if kind == "less" or one[0] == "slide"]
    return chance.choice(told) if told else None


def some_row(drawing, done, length, seed, most=12):
    """A row of moves by chance: [(drawing, the tuple of a move that is done in it)], by done(drawing, told)."""
    chance = Random(seed)
    row = []
    while len(row) < length:
        told = some_move(drawing, chance, most)
        if told is not None:
            row.append((drawing, told))
            drawing = done(drawing, told)
    return row
