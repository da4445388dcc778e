"""One or more calls of everything in the interface that tells something: (function, what is handed in)."""

from knotwise import (braids, brackets, colours, drawings, fits, makings, marks, moves, polys, search, settled, sides,
                      texts, verdicts)

KNOT = [[(2, 1, 1), (3, 0, 1), (1, 1, 1), (2, 0, 1), (3, 1, 1), (1, 0, 1)]]
LINK = [[(7, 1, 1), (5, 0, 1)], [(5, 1, 1), (9, 0, -1), (9, 1, -1), (7, 0, 1)], []]
SPLIT = [[(4, 0, 1), (2, 0, -1), (6, 1, 1), (6, 0, 1)], [(2, 1, -1), (4, 1, 1)]]
POLY = {2: -1, -2: 3, 7: 10 ** 40}

OF_A_DRAWING = [
    drawings.checked, drawings.names_of, drawings.spots_of, drawings.next_of, texts.text_of, sides.sides_of,
    sides.regions, sides.pieces, sides.flat, fits.lessening, brackets.bracket_by_all, brackets.bracket, marks.writhe,
    marks.linking, marks.levelled, colours.bows, colours.bow_at, makings.switched, makings.reflected, settled.settled,
    settled.settling,
]


def marks_by(word, drawing):
    return verdicts.mark_by(word)(drawing)


def done(told, drawing):
    return moves.move_of(told).done(drawing)


def back(told, drawing):
    return moves.move_of(told).back(drawing).told()


def renamed(told, names):
    return moves.move_of(told).renamed(names).told()


def calls():
    """New values for each call."""
    found = []
    for drawing in (KNOT, LINK, SPLIT, [[]], [[], []]):
        found.extend((function, [drawing]) for function in OF_A_DRAWING)
        found.extend((colours.basis, [drawing, p]) for p in (3, 5, 7))
        found.extend((colours.count_colourings, [drawing, p]) for p in (3, 5, 7))
        found.append((colours.all_colourings, [drawing, 3]))
        found.append((colours.fits_colours, [drawing, 5, [0] * len(colours.bows(drawing))]))
        found.append((makings.run_back, [drawing, 0]))
        found.append((brackets.opened, [drawing, drawings.names_of(drawing)[1:]]))
        choice = {name: name % 2 for name in drawings.names_of(drawing)}
        found.extend((function, [drawing, choice]) for function in (brackets.rings, brackets.power))
        found.extend((search.reach, [drawing, length]) for length in (0, 3))
        found.append((search.simplest, [drawing, 2]))
        found.extend((verdicts.verdict, [drawing, other, 3]) for other in (KNOT, SPLIT, [[], []]))
        found.extend((marks_by, [word, drawing]) for word in verdicts.MARKS)
    return found + of_parts() + of_moves()


def of_parts():
    return [
        (drawings.seated, [KNOT[0]]), (drawings.hand_of, [LINK, 9]), (drawings.string_of, [LINK, (2, 2)]),
        (texts.read_text, ["1o+ 1u+\n."]), (sides.near, [LINK, (5, 0), (2, 2), 0, 1]),
        (polys.added, [POLY, {7: 5, -2: -3}]), (polys.times, [POLY, polys.LOOP]), (polys.shifted, [POLY, -3, 2]),
        (polys.turned, [POLY]), (polys.raised, [POLY, 4]), (polys.raised, [polys.LOOP, 1]), (polys.poly_text, [POLY]),
        (makings.beside, [KNOT, [[]]]), (makings.tied, [KNOT, (2, 1), LINK, (7, 0)]),
        (braids.closed, [[1, -2, 1, -2], 3]), (braids.closed, [[], 3]),
    ]


def of_moves():
    found = []
    curl = ("curl", 8, (2, 2), 1, -1)
    lay = ("lay", 8, 1, (5, 0), (1, 0), 1, -1)
    for told in (curl, lay, ("uncurl", 9)):
        found.extend((function, [told, LINK]) for function in (done, back))
        found.append((renamed, [told, {5: 6, 9: 10, 8: 20}]))
    found.extend((function, [("part", 2, 4), SPLIT]) for function in (done, back))
    found.append((search.walked, [KNOT, [("curl", 8, (1, 0), 1, -1), ("curl", 9, (2, 1), 1, 1)]]))
    found.append((search.back_row, [KNOT, [("curl", 8, (1, 0), 1, -1), ("curl", 9, (2, 1), 1, 1)]]))
    return found


def all_told():
    """The repr of what every call tells."""
    return [repr((function.__name__, function(*handed))) for function, handed in calls()]


if __name__ == "__main__":
    print("\n".join(all_told()))
