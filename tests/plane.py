"""Drawings made of polygons on the plane: flat by their making, with hands as point 5 tells them."""

from fractions import Fraction
from itertools import combinations
from random import Random

TINY = Fraction(1, 10 ** 18)


def cross(one, other):
    return one[0] * other[1] - one[1] * other[0]


def less(one, other):
    return (one[0] - other[0], one[1] - other[1])


def edges_of(polygons):
    """All edges: (string, number in it, start, way to the end)."""
    edges = []
    for string, points in enumerate(polygons):
        for number, point in enumerate(points):
            after = points[(number + 1) % len(points)]
            edges.append((string, number, point, less(after, point)))
    return edges


def meeting(one, other):
    """How far along both edges they cross, or None; ValueError where they touch otherwise."""
    turn = cross(one[3], other[3])
    if turn == 0:
        if cross(less(other[2], one[2]), one[3]) == 0:
            raise ValueError("on one line")
        return None
    gap = less(other[2], one[2])
    along = Fraction(cross(gap, other[3]), turn)
    along_other = Fraction(cross(gap, one[3]), turn)
    if not (0 <= along <= 1 and 0 <= along_other <= 1):
        return None
    if along in (0, 1) or along_other in (0, 1):
        raise ValueError("touching at a point of a polygon")
    return (along, along_other)


def neighbours(one, other, polygons):
    if one[0] != other[0]:
        return False
    return (one[1] - other[1]) % len(polygons[one[0]]) in (1, len(polygons[one[0]]) - 1)


def drawn(polygons, chance):
    """(drawing, where): where tells of each spot (string, a point of the stretch, the way it goes there)."""
    met = {string: [] for string in range(len(polygons))}
    name = 0
    for one, other in combinations(edges_of(polygons), 2):
        if neighbours(one, other, polygons):
            if cross(one[3], other[3]) == 0:
                raise ValueError("straight on")
            continue
        both = meeting(one, other)
        if both is None:
            continue
        name += 1
        ways = chance.choice([(0, 1), (1, 0)])
        over, under = (one, other) if ways[0] == 0 else (other, one)
        # To the left of the over way, where the turn from it to the under way is positive.
        hand = 1 if cross(over[3], under[3]) > 0 else -1
        for edge, along, way in zip((one, other), both, ways):
            met[edge[0]].append((edge[1], along, edge, (name, way, hand)))
    return rows_and_places(polygons, met)


def rows_and_places(polygons, met):
    rows, where = [], {}
    for string in range(len(polygons)):
        events = sorted(met[string])
        if len(set(event[:2] for event in events)) < len(events):
            raise ValueError("three at one point")
        rows.append([event[3] for event in events])
        for number, (edge_number, along, edge, passing) in enumerate(events):
            after = events[(number + 1) % len(events)]
            end = after[1] if after[0] == edge_number and after[1] > along else 1
            middle = (along + end) / 2
            point = (edge[2][0] + middle * edge[3][0], edge[2][1] + middle * edge[3][1])
            where[passing[:2]] = (string, point, edge[3])
    return rows, where


def beside(point, way, side):
    """A point just left (0) or right (1) of the point for who goes that way."""
    turn = 1 if side == 0 else -1
    return (point[0] - turn * TINY * way[1], point[1] + turn * TINY * way[0])


def winding(points, centre):
    """How often the polygon goes round the centre."""
    rounds = 0
    for number, start in enumerate(points):
        end = points[(number + 1) % len(points)]
        if (start[1] <= centre[1]) != (end[1] <= centre[1]):
            turn = cross(less(end, start), less(centre, start))
            if start[1] <= centre[1] and turn > 0:
                rounds += 1
            elif start[1] > centre[1] and turn < 0:
                rounds -= 1
    return rounds


def polygon_drawings(count, most=12, seed=5):
    """So many (polygons, drawing, where) with at most so many crossings, the same each time."""
    chance = Random(seed)
    told = []
    while len(told) < count:
        polygons = []
        for string in range(chance.choice([1, 2, 2, 3])):
            polygons.append([(chance.randrange(40), chance.randrange(40)) for corner in range(chance.randrange(3, 7))])
        try:
            rows, where = drawn(polygons, chance)
        except ValueError:
            continue
        if sum(len(row) for row in rows) <= 2 * most:
            told.append((polygons, rows, where))
    return told
