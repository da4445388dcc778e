import unittest
from itertools import product

from knotwise.colours import all_colourings, basis, bow_at, bows, count_colourings, fits_colours
from knotwise.drawings import checked, names_of, spots_of
from knotwise.errors import NoPrime, TooMany
from knotwise.moves import move_of
from plane import polygon_drawings
from samples import (BENT, CHAIN, CURL, CURL_LEFT, EIGHT, FLAT, HALF_HOPF, HOPF, LAID, TREFOIL, TWISTED, assert_own,
                     begun_elsewhere, curls, small_drawings)
from walks import all_curls, all_lays, fitting, next_in, some_row, triangle

LONG = 10 ** 60 - 1
NO_PRIMES = [2, 4, 6, 8, 9, 1, 0, -1, -3, -5, -7, 11, 13, 15, 21, 35, 49, LONG, -LONG, 10 ** 59 + 7]
FIVE_TWO = [[(1, 0, 1), (2, 1, 1), (3, 0, 1), (4, 1, 1), (5, 0, 1), (1, 1, 1), (2, 0, 1), (5, 1, 1), (4, 0, 1),
             (3, 1, 1)]]


def did(drawing, told):
    return move_of(told).done(drawing)


def many_drawings():
    drawings = FLAT + BENT + [FIVE_TWO] + list(small_drawings())[::3]
    drawings += [checked([sum(triangle(turn, (1, 1, -1)), [])]) for turn in (1, -1)]
    return drawings + [checked(drawing) for polygons, drawing, where in polygon_drawings(40, seed=17)]


def bow_of(drawing, spot):
    """The bow of a stretch, walked back to where it begins."""
    before = {after: ahead for ahead, after in next_in(drawing).items()}
    at = spot
    while at[1] == 0:
        at = before[at]
        if at == spot:
            return ([spot in [passing[:2] for passing in row] for row in drawing].index(True), 2)
    return at


def is_colouring(drawing, p, colour):
    """Point 30, of a dict from bows to numbers."""
    before = {after: ahead for ahead, after in next_in(drawing).items()}
    for name in names_of(drawing):
        over, leaves = bow_of(drawing, (name, 0)), bow_of(drawing, (name, 1))
        comes = bow_of(drawing, before[name, 1])
        if (2 * colour[over] - colour[comes] - colour[leaves]) % p:
            return False
    return True


def rank(drawing, p):
    """How many of the crossings' equations hang on no others."""
    order = bows(drawing)
    before = {after: ahead for ahead, after in next_in(drawing).items()}
    rows = []
    for name in names_of(drawing):
        row = [0] * len(order)
        row[order.index(bow_of(drawing, (name, 0)))] += 2
        row[order.index(bow_of(drawing, (name, 1)))] -= 1
        row[order.index(bow_of(drawing, before[name, 1]))] -= 1
        rows.append(row)
    found = 0
    for column in range(len(order)):
        pivot = next((row for row in rows[found:] if row[column] % p), None)
        if pivot is not None:
            rows.remove(pivot)
            rows.insert(found, pivot)
            for place in range(found + 1, len(rows)):
                factor = rows[place][column] * pow(pivot[column], -1, p)
                rows[place] = [(one - factor * other) % p for one, other in zip(rows[place], pivot)]
            found += 1
    return found


class BowsTest(unittest.TestCase):
    def test_worked(self):
        self.assertEqual(bows(TREFOIL), [(1, 1), (2, 1), (3, 1)])
        self.assertEqual(bow_at(TREFOIL), {(1, 0): (3, 1), (2, 1): (2, 1), (3, 0): (2, 1), (1, 1): (1, 1),
                                           (2, 0): (1, 1), (3, 1): (3, 1)})
        self.assertEqual(bow_at(HOPF), {(1, 0): (2, 1), (2, 1): (2, 1), (1, 1): (1, 1), (2, 0): (1, 1)})
        self.assertEqual(bow_at(TWISTED), {(1, 0): (2, 1), (2, 0): (2, 1), (1, 1): (1, 1), (2, 1): (2, 1)})

    def test_without_passings(self):
        self.assertEqual(bows([[], [], []]), [(0, 2), (1, 2), (2, 2)])
        self.assertEqual(bow_at([[], []]), {(0, 2): (0, 2), (1, 2): (1, 2)})
        self.assertEqual(bows(CURL + [[]]), [(1, 1), (1, 2)])
        self.assertEqual(bow_at(CURL + [[]]), {(1, 0): (1, 1), (1, 1): (1, 1), (1, 2): (1, 2)})

    def test_over_passings_alone(self):
        self.assertEqual(bows(LAID), [(0, 2), (1, 1), (2, 1)])
        self.assertEqual(bow_at(LAID), {(1, 0): (0, 2), (2, 0): (0, 2), (1, 1): (1, 1), (2, 1): (2, 1)})
        self.assertEqual(bows(LAID[::-1]), [(1, 1), (1, 2), (2, 1)])
        self.assertEqual(bow_at(LAID[::-1]), {(1, 0): (1, 2), (2, 0): (1, 2), (1, 1): (1, 1), (2, 1): (2, 1)})
        self.assertEqual(bow_at([[]] + HALF_HOPF), {(0, 2): (0, 2), (1, 0): (1, 2), (1, 1): (1, 1)})

    def test_one_under_passing_alone(self):
        drawing = [[(1, 0, 1), (2, 0, 1), (3, 1, 1)], [(1, 1, 1), (2, 1, 1), (3, 0, 1)]]
        self.assertEqual(bows(drawing), [(1, 1), (2, 1), (3, 1)])
        self.assertEqual(bow_at(drawing), {(1, 0): (3, 1), (2, 0): (3, 1), (3, 1): (3, 1), (1, 1): (1, 1),
                                           (2, 1): (2, 1), (3, 0): (2, 1)})

    def test_each_stretch(self):
        for drawing in many_drawings():
            told = bow_at(drawing)
            self.assertEqual(sorted(told), spots_of(drawing))
            for spot in told:
                self.assertEqual(told[spot], bow_of(drawing, spot) if spot[1] != 2 else spot)
            self.assertEqual(bows(drawing), sorted(set(told.values())))

    def test_sorted_by_numbers(self):
        self.assertEqual(bows([[(10, 0, 1), (10, 1, 1), (9, 1, 1)], [(9, 0, 1)], []]), [(1, 2), (2, 2), (9, 1), (10, 1)])

    def test_told_is_new(self):
        for drawing in (TREFOIL, LAID, CHAIN, [[], []]):
            assert_own(self, bows, [list(row) for row in drawing])
            assert_own(self, bow_at, [list(row) for row in drawing])


class FitsColoursTest(unittest.TestCase):
    def test_worked(self):
        for numbers in ([0, 1, 2], [2, 1, 0], [1, 1, 1], [0, 0, 0]):
            self.assertIs(fits_colours(TREFOIL, 3, numbers), True)
        for numbers in ([0, 0, 1], [1, 2, 2], [2, 0, 0]):
            self.assertIs(fits_colours(TREFOIL, 3, numbers), False)
        self.assertIs(fits_colours(TREFOIL, 5, [0, 1, 2]), False)
        self.assertIs(fits_colours(TREFOIL, 7, [4, 4, 4]), True)
        self.assertIs(fits_colours(EIGHT, 5, [1, 0, 2, 4]), True)
        self.assertIs(fits_colours(EIGHT, 5, [1, 0, 4, 2]), False)
        self.assertIs(fits_colours(EIGHT, 3, [1, 0, 2, 1]), False)

    def test_no_crossings(self):
        for p in (3, 5, 7):
            self.assertIs(fits_colours([[], []], p, [0, p - 1]), True)

    def test_a_curl_holds_one_number(self):
        drawing = [curls(2)]
        self.assertIs(fits_colours(drawing, 3, [2, 2]), True)
        self.assertIs(fits_colours(drawing, 3, [2, 1]), False)

    def test_all_lists(self):
        for drawing in many_drawings():
            order = bows(drawing)
            if len(order) <= 4:
                for p in (3, 5):
                    for numbers in product(range(p), repeat=len(order)):
                        self.assertIs(fits_colours(drawing, p, list(numbers)),
                                      is_colouring(drawing, p, dict(zip(order, numbers))))

    def test_handed_in_stays(self):
        assert_own(self, fits_colours, [list(row) for row in TREFOIL], 3, [0, 1, 2])
        assert_own(self, fits_colours, [list(row) for row in TREFOIL], 3, [0, 1, 1])


class ColouringsTest(unittest.TestCase):
    def test_worked(self):
        self.assertEqual(all_colourings(TREFOIL, 3), [[0, 0, 0], [0, 1, 2], [0, 2, 1], [1, 0, 2], [1, 1, 1], [1, 2, 0],
                                                      [2, 0, 1], [2, 1, 0], [2, 2, 2]])
        self.assertEqual(basis(TREFOIL, 3), [[1, 0, 2], [0, 1, 2]])
        self.assertEqual(all_colourings(TREFOIL, 5), [[number] * 3 for number in range(5)])
        self.assertEqual(basis(TREFOIL, 5), [[1, 1, 1]])
        self.assertEqual(basis(EIGHT, 5), [[1, 0, 2, 4], [0, 1, 4, 2]])
        self.assertEqual(all_colourings([[]], 7), [[number] for number in range(7)])
        self.assertEqual(basis([[], []], 3), [[1, 0], [0, 1]])
        self.assertEqual(basis(LAID, 7), [[1, 0, 2], [0, 1, 6]])

    def test_their_numbers(self):
        told = {p: [count_colourings(drawing, p) for drawing in (TREFOIL, EIGHT, FIVE_TWO, HOPF, LAID, CURL, [[]],
                                                                 [[], []], [[], [], []], CHAIN)] for p in (3, 5, 7)}
        self.assertEqual(told[3], [9, 3, 3, 3, 9, 3, 3, 9, 27, 3])
        self.assertEqual(told[5], [5, 25, 5, 5, 25, 5, 5, 25, 125, 5])
        self.assertEqual(told[7], [7, 7, 49, 7, 49, 7, 7, 49, 343, 7])

    def test_gone_through_one_by_one(self):
        for drawing in many_drawings():
            order = bows(drawing)
            for p in (3, 5, 7):
                if p ** len(order) <= 2500:
                    told = [list(numbers) for numbers in product(range(p), repeat=len(order))
                            if is_colouring(drawing, p, dict(zip(order, numbers)))]
                    self.assertEqual(all_colourings(drawing, p), told)

    def test_three_ways_tell_the_same(self):
        for drawing in many_drawings():
            for p in (3, 5, 7):
                if p ** len(bows(drawing)) <= 2500:
                    told = all_colourings(drawing, p)
                    self.assertEqual(count_colourings(drawing, p), len(told))
                    self.assertEqual(self.spanned(basis(drawing, p), p, len(bows(drawing))), told)

    def spanned(self, rows, p, count):
        """All sums of multiples of the rows, each way of making one told by itself."""
        told = []
        for factors in product(range(p), repeat=len(rows)):
            told.append([sum(factor * row[place] for factor, row in zip(factors, rows)) % p for place in range(count)])
        return sorted(told)

    def test_the_basis(self):
        sizes = set()
        for drawing in many_drawings():
            for p in (3, 5, 7):
                rows = basis(drawing, p)
                sizes.add(len(rows))
                firsts = [[bool(number) for number in row].index(True) for row in rows]
                self.assertEqual(firsts, sorted(set(firsts)))
                for row, first in zip(rows, firsts):
                    self.assertEqual(row[first], 1)
                    self.assertEqual([other[first] for other in rows if other is not row], [0] * (len(rows) - 1))
                    self.assertTrue(all(0 <= number < p for number in row))
                    self.assertTrue(is_colouring(drawing, p, dict(zip(bows(drawing), row))))
                self.assertEqual(len(rows), len(bows(drawing)) - rank(drawing, p))
                self.assertEqual(count_colourings(drawing, p), p ** len(rows))
        self.assertTrue(sizes >= {1, 2, 3})

    def test_more_bows_than_can_be_gone_through(self):
        self.assertEqual(count_colourings([curls(12)], 7), 7)
        self.assertEqual(basis([curls(12)], 7), [[1] * 12])
        drawing = [curls(12), [], []]
        self.assertEqual(bows(drawing)[:4], [(1, 1), (1, 2), (2, 1), (2, 2)])
        self.assertEqual(count_colourings(drawing, 5), 125)
        self.assertEqual(basis(drawing, 5), [[1, 0, 1, 0] + [1] * 10, [0, 1] + [0] * 12, [0, 0, 0, 1] + [0] * 10])

    def test_no_prime(self):
        for p in NO_PRIMES:
            for drawing, numbers in ((TREFOIL, [0, 0, 0]), ([[]], [0]), ([curls(12)], [0] * 12), ([[], []], [0, 0])):
                with self.assertRaises(NoPrime):
                    fits_colours(drawing, p, numbers)
                for function in (all_colourings, basis, count_colourings):
                    with self.assertRaises(NoPrime):
                        function(drawing, p)

    def test_just_at_the_bound_and_above(self):
        for p, most in ((3, 7), (5, 4), (7, 4)):
            self.assertEqual(all_colourings([curls(most)], p), [[number] * most for number in range(p)])
            for count in (most + 1, most + 2, 12):
                with self.assertRaises(TooMany):
                    all_colourings([curls(count)], p)
                self.assertEqual(count_colourings([curls(count)], p), p)
        self.assertEqual(len(all_colourings([curls(5), [], []], 3)), 27)
        with self.assertRaises(TooMany):
            all_colourings([curls(6), [], []], 3)

    def test_beginnings_tell_nothing(self):
        for drawing in (TREFOIL, CHAIN, LAID, CURL_LEFT + [[]]):
            for rows in begun_elsewhere(drawing):
                self.assertEqual((bows(rows), bow_at(rows)), (bows(drawing), bow_at(drawing)))
                self.assertEqual(basis(rows, 3), basis(drawing, 3))
                self.assertEqual(all_colourings(rows, 3), all_colourings(drawing, 3))

    def test_told_is_new(self):
        for drawing in (TREFOIL, LAID, EIGHT, [[]], [[], []]):
            for p in (3, 5, 7):
                for function in (all_colourings, basis, count_colourings):
                    assert_own(self, function, [list(row) for row in drawing], p)


class NoMoveChangesTest(unittest.TestCase):
    def numbers(self, drawing):
        return [count_colourings(drawing, p) for p in (3, 5, 7)]

    def test_each_move(self):
        words = set()
        for drawing in many_drawings():
            if len(names_of(drawing)) <= 10:
                told = list(all_curls(drawing, 50))[::3] + list(all_lays(drawing, 60, 51))[::11] + fitting(drawing)
                for one in told:
                    words.add(one[0])
                    self.assertEqual(self.numbers(did(drawing, one)), self.numbers(drawing), (drawing, one))
        self.assertEqual(len(words), 5)

    def test_rows_of_moves(self):
        for seed, drawing in enumerate(FLAT + BENT + [FIVE_TWO]):
            row = some_row(drawing, did, 25, seed + 500)
            for ahead, told in row + [(did(*row[-1]), None)]:
                self.assertEqual(self.numbers(ahead), self.numbers(drawing))


if __name__ == "__main__":
    unittest.main()
