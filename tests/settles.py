"""Settled drawings and reaches by the words of the document, reckoned a second time."""

from itertools import product
from random import Random

from knotwise.braids import closed
from knotwise.drawings import checked
from knotwise.moves import move_of
from plane import polygon_drawings
from samples import BENT, FLAT, renamed_drawing
from walks import fitting, some_move, some_row, triangle


def did(drawing, told):
    return move_of(told).done(drawing)


def all_settlings(drawing):
    """Each (drawing, names) that comes by some choice of beginnings, by point 38."""
    for starts in product(*[range(max(1, len(row))) for row in drawing]):
        met = []
        for start, row in zip(starts, drawing):
            for place in range(len(row)):
                name = row[(start + place) % len(row)][0]
                if name not in met:
                    met.append(name)
        names = {name: number for number, name in enumerate(met, 1)}
        yield renamed_drawing(drawing, names), names


def least(drawing):
    """The settled drawing."""
    return min(made for made, names in all_settlings(drawing))


def reached(drawing, length):
    """A dict from the repr of each drawing of the reach to the least number of moves that come to it, by point 41."""
    newest = [least(drawing)]
    steps = {repr(newest[0]): 0}
    for count in range(1, length + 1):
        further = []
        for at_hand in newest:
            for told in fitting(at_hand):
                made = least(did(at_hand, told))
                if repr(made) not in steps:
                    steps[repr(made)] = count
                    further.append(made)
        newest = further
    return steps


def chance_row(drawing, length, seed, most=12):
    """A row of so many moves of all words that can be walked from the drawing, and the settled drawings on its way."""
    chance = Random(seed)
    way, row = [least(drawing)], []
    while len(row) < length:
        told = some_move(way[-1], chance, most)
        if told is not None:
            row.append(told)
            way.append(least(did(way[-1], told)))
    return row, way


def tangled(seed, length=14, most=8):
    """A drawing that a row of moves by chance made of a sample, of at most so many crossings."""
    start = (FLAT + BENT)[seed % len(FLAT + BENT)]
    return did(*some_row(start, did, length, seed, most)[-1])


def searched(count):
    """Drawings of at most eight crossings: samples, polygons, braids, and what moves by chance made."""
    drawings = FLAT + BENT + [triangle(1, (1, 1, 1)), [sum(triangle(-1, (1, -1, 1)), [])]]
    drawings += [checked(drawing) for polygons, drawing, where in polygon_drawings(count, most=8, seed=23)]
    drawings += [closed([1, 2, 1, -2, -1, -2, 1, 1], 3), closed([1, 2, -1, 2, 1, 2, -1], 3), closed([1, -1, 1, -1], 2)]
    return drawings + [tangled(seed) for seed in range(count)]
