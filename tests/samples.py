"""Drawings and small helpers that several tests share."""

import copy
from itertools import combinations, permutations, product

TREFOIL = [[(1, 0, 1), (2, 1, 1), (3, 0, 1), (1, 1, 1), (2, 0, 1), (3, 1, 1)]]
EIGHT = [[(1, 0, -1), (4, 1, 1), (3, 0, 1), (1, 1, -1), (2, 0, -1), (3, 1, 1), (4, 0, 1), (2, 1, -1)]]
HOPF = [[(1, 0, 1), (2, 1, 1)], [(1, 1, 1), (2, 0, 1)]]
HOPF_LEFT = [[(1, 0, -1), (2, 1, -1)], [(1, 1, -1), (2, 0, -1)]]
LAID = [[(1, 0, 1), (2, 0, -1)], [(1, 1, 1), (2, 1, -1)]]
CURL = [[(1, 0, 1), (1, 1, 1)]]
CURL_LEFT = [[(1, 0, -1), (1, 1, -1)]]
TWISTED = [[(1, 0, 1), (2, 0, 1), (1, 1, 1), (2, 1, 1)]]
HALF_HOPF = [[(1, 0, 1)], [(1, 1, 1)]]
CHAIN = [
    [(1, 0, 1), (2, 1, 1)],
    [(1, 1, 1), (2, 0, 1), (3, 0, -1), (4, 1, -1)],
    [(3, 1, -1), (4, 0, -1)],
]

FLAT = [TREFOIL, EIGHT, HOPF, HOPF_LEFT, LAID, CURL, CURL_LEFT, CHAIN, [[]], [[], []], [[], [], []], CURL + [[]]]
BENT = [TWISTED, HALF_HOPF, HALF_HOPF + [[]], [[]] + TWISTED]


def begun_elsewhere(drawing):
    """The drawing with its rows begun in all ways."""
    turns = [[row[start:] + row[:start] for start in range(max(1, len(row)))] for row in drawing]
    return [list(rows) for rows in product(*turns)]


def curls(count):
    """A row of that many curls."""
    row = []
    for name in range(1, count + 1):
        row.extend([(name, 0, 1), (name, 1, 1)])
    return row


def renamed_drawing(drawing, names):
    """The drawing with other names, each row begun with its least passing."""
    rows = [[(names.get(name, name), way, hand) for name, way, hand in row] for row in drawing]
    return [row[row.index(min(row)):] + row[:row.index(min(row))] if row else [] for row in rows]


def orders(count):
    """All rings of the passings of count crossings, one for each way in which the first stands first."""
    spots = [(name, way) for name in range(1, count + 1) for way in (0, 1)]
    for others in permutations(spots[1:]):
        yield spots[:1] + list(others)


def cut(spots, hands, places):
    """The row of spots with its hands, cut into rows at the places."""
    row = [(name, way, hands[name - 1]) for name, way in spots]
    ends = [0] + list(places) + [len(row)]
    return [row[start:end] for start, end in zip(ends, ends[1:])]


def small_drawings(most=2):
    """Many drawings of one or two strings with up to so many crossings, flat and not."""
    for count in range(1, most + 1):
        for spots in orders(count):
            for hands in product((1, -1), repeat=count):
                yield cut(spots, hands, [])
                for place in range(2 * count + 1):
                    yield cut(spots, hands, [place])


def assert_as_flat(case, drawing):
    """What point 16 says of every flat drawing."""
    where = {passing[:2]: string for string, row in enumerate(drawing) for passing in row}
    hands = {passing[0]: passing[2] for row in drawing for passing in row}
    for one, other in combinations(range(len(drawing)), 2):
        over = [hand for name, hand in hands.items() if (where[name, 0], where[name, 1]) == (one, other)]
        under = [hand for name, hand in hands.items() if (where[name, 0], where[name, 1]) == (other, one)]
        case.assertEqual(len(over + under) % 2, 0, drawing)
        case.assertEqual(sum(over), sum(under), drawing)
    for row in drawing:
        spots = [passing[:2] for passing in row]
        for name, way in spots:
            if way == 0 and (name, 1) in spots:
                case.assertEqual((spots.index((name, 0)) - spots.index((name, 1))) % 2, 1, drawing)


def kept_within(value):
    """All lists and dicts in a value, itself among them."""
    found = []
    if isinstance(value, (list, dict)):
        found.append(value)
    if isinstance(value, dict):
        value = list(value.values())
    if isinstance(value, (list, tuple)):
        for part in value:
            found.extend(kept_within(part))
    return found


def assert_own(case, function, *handed):
    """What is handed in stays; what is told is new, and changing it changes nothing told later."""
    before = copy.deepcopy(handed)
    told = function(*handed)
    case.assertEqual(handed, before)
    first = copy.deepcopy(told)
    of_handed = [id(part) for part in kept_within(handed)]
    parts = kept_within(told)
    case.assertEqual(len(set(id(part) for part in parts)), len(parts))
    for part in parts:
        case.assertNotIn(id(part), of_handed)
    for part in parts:
        part.clear()
    case.assertEqual(handed, before)
    again = function(*handed)
    case.assertEqual(again, first)
    for part in kept_within(handed):
        part.clear()
    case.assertEqual(again, first)
