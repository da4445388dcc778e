import unittest
from itertools import product

from knotwise.brackets import bracket
from knotwise.drawings import checked, names_of, spots_of, string_of
from knotwise.errors import NoSpot, NoString, TooMany
from knotwise.makings import beside, reflected, run_back, switched, tied
from knotwise.marks import linking, writhe
from knotwise.polys import LOOP, times, turned
from knotwise.sides import flat
from plane import polygon_drawings
from samples import (BENT, CHAIN, CURL, CURL_LEFT, EIGHT, FLAT, HALF_HOPF, HOPF, HOPF_LEFT, LAID, TREFOIL, TWISTED,
                     assert_own, begun_elsewhere, curls, renamed_drawing, small_drawings)

LONG = 10 ** 60 - 1
MIXED = [[(7, 0, 1), (3, 1, -1), (3, 0, -1), (5, 0, 1)], [(7, 1, 1), (5, 1, 1), (9, 1, 1), (9, 0, 1)]]


def many_drawings():
    drawings = FLAT + BENT + [MIXED] + list(small_drawings())[::3]
    return drawings + [checked(drawing) for polygons, drawing, where in polygon_drawings(40, most=9, seed=23)]


def few_drawings():
    return [[[]], [[], []], CURL, CURL_LEFT + [[]], [[]] + CURL, HOPF, HALF_HOPF, TWISTED, LAID, TREFOIL, EIGHT, MIXED]


class SwitchedTest(unittest.TestCase):
    def test_worked(self):
        self.assertEqual(switched(CURL), [[(1, 0, -1), (1, 1, -1)]])
        self.assertEqual(switched(TREFOIL), [[(1, 0, -1), (2, 1, -1), (3, 0, -1), (1, 1, -1), (2, 0, -1), (3, 1, -1)]])
        self.assertEqual(switched(HALF_HOPF), [[(1, 1, -1)], [(1, 0, -1)]])
        self.assertEqual(switched(LAID), [[(1, 1, -1), (2, 1, 1)], [(1, 0, -1), (2, 0, 1)]])
        self.assertEqual(switched(MIXED), [[(3, 0, 1), (3, 1, 1), (5, 1, -1), (7, 1, -1)],
                                           [(5, 0, -1), (9, 0, -1), (9, 1, -1), (7, 0, -1)]])
        self.assertEqual(switched([[], []]), [[], []])

    def test_reflected(self):
        self.assertEqual(reflected(CURL), CURL_LEFT)
        self.assertEqual(reflected(HOPF), HOPF_LEFT)
        self.assertEqual(reflected(HALF_HOPF), [[(1, 0, -1)], [(1, 1, -1)]])
        self.assertEqual(reflected(LAID), [[(1, 0, -1), (2, 0, 1)], [(1, 1, -1), (2, 1, 1)]])
        self.assertEqual(reflected([[], []]), [[], []])
        self.assertEqual(reflected(MIXED), [[(3, 0, 1), (5, 0, -1), (7, 0, -1), (3, 1, 1)],
                                            [(5, 1, -1), (9, 1, -1), (9, 0, -1), (7, 1, -1)]])

    def test_by_the_words_of_the_document(self):
        for drawing in many_drawings():
            self.assertEqual(switched(drawing), checked([[(name, 1 - way, -hand) for name, way, hand in row]
                                                         for row in drawing]))
            self.assertEqual(reflected(drawing), checked([[(name, way, -hand) for name, way, hand in row]
                                                          for row in drawing]))

    def test_twice_is_the_same_again(self):
        for drawing in many_drawings():
            self.assertEqual(switched(switched(drawing)), checked(drawing))
            self.assertEqual(reflected(reflected(drawing)), checked(drawing))

    def test_both_turn_the_bracket(self):
        for drawing in many_drawings():
            self.assertEqual(bracket(switched(drawing)), turned(bracket(drawing)))
            self.assertEqual(bracket(reflected(drawing)), turned(bracket(drawing)))
        self.assertNotEqual(bracket(TREFOIL), turned(bracket(TREFOIL)))

    def test_flat_stays_flat(self):
        for drawing in many_drawings():
            self.assertEqual(flat(switched(drawing)), flat(drawing))
            self.assertEqual(flat(reflected(drawing)), flat(drawing))

    def test_told_is_new(self):
        for drawing in (TREFOIL, CHAIN, MIXED, [[], []], CURL_LEFT):
            assert_own(self, switched, [list(row) for row in drawing])
            assert_own(self, reflected, [list(row) for row in drawing])


class RunBackTest(unittest.TestCase):
    def test_a_string_with_itself(self):
        self.assertEqual(run_back(TREFOIL, 0), [[(1, 0, 1), (3, 1, 1), (2, 0, 1), (1, 1, 1), (3, 0, 1), (2, 1, 1)]])
        self.assertEqual(run_back(CURL_LEFT, 0), CURL_LEFT)

    def test_with_others(self):
        self.assertEqual(run_back(HOPF, 0), HOPF_LEFT)
        self.assertEqual(run_back(HOPF, 1), HOPF_LEFT)
        self.assertEqual(run_back(HALF_HOPF, 1), [[(1, 0, -1)], [(1, 1, -1)]])
        self.assertEqual(run_back(CHAIN, 0), [[(1, 0, -1), (2, 1, -1)], [(1, 1, -1), (2, 0, -1), (3, 0, -1), (4, 1, -1)],
                                              [(3, 1, -1), (4, 0, -1)]])
        self.assertEqual(run_back(CHAIN, 1), [[(1, 0, -1), (2, 1, -1)], [(1, 1, -1), (4, 1, 1), (3, 0, 1), (2, 0, -1)],
                                              [(3, 1, 1), (4, 0, 1)]])

    def test_with_itself_and_others(self):
        self.assertEqual(run_back(MIXED, 0), [[(3, 0, -1), (3, 1, -1), (7, 0, -1), (5, 0, -1)],
                                              [(5, 1, -1), (9, 1, 1), (9, 0, 1), (7, 1, -1)]])
        self.assertEqual(run_back(MIXED, 1), [[(3, 0, -1), (5, 0, -1), (7, 0, -1), (3, 1, -1)],
                                              [(5, 1, -1), (7, 1, -1), (9, 0, 1), (9, 1, 1)]])

    def test_without_passings(self):
        self.assertEqual(run_back([[], [], []], 2), [[], [], []])
        self.assertEqual(run_back(CURL + [[]], 1), CURL + [[]])

    def test_the_bracket_stays(self):
        for drawing in many_drawings():
            for string in range(len(drawing)):
                made = run_back(drawing, string)
                self.assertEqual(made, checked(made))
                self.assertEqual(bracket(made), bracket(drawing))
                self.assertEqual(run_back(made, string), checked(drawing))
                self.assertEqual(flat(made), flat(drawing))

    def test_all_strings_run_back_keep_all_hands(self):
        for drawing in many_drawings():
            made = drawing
            for string in range(len(drawing)):
                made = run_back(made, string)
            self.assertEqual(made, checked([row[::-1] for row in drawing]))

    def test_no_such_string(self):
        for drawing in (TREFOIL, HOPF, CHAIN, [[]]):
            for string in (len(drawing), len(drawing) + 1, -1, -2, -3, LONG, -LONG):
                with self.assertRaises(NoString):
                    run_back(drawing, string)

    def test_told_is_new(self):
        for drawing in (TREFOIL, CHAIN, MIXED, [[], []]):
            for string in range(len(drawing)):
                assert_own(self, run_back, [list(row) for row in drawing], string)


class BesideTest(unittest.TestCase):
    def test_names_rising(self):
        self.assertEqual(beside(CURL, CURL_LEFT), CURL + [[(2, 0, -1), (2, 1, -1)]])
        self.assertEqual(beside([[(900, 0, 1), (40, 0, 1), (900, 1, 1), (40, 1, 1)]], HOPF),
                         [[(1, 0, 1), (2, 1, 1), (1, 1, 1), (2, 0, 1)], [(3, 0, 1), (4, 1, 1)], [(3, 1, 1), (4, 0, 1)]])
        self.assertEqual(beside(CURL, MIXED), CURL + [[(2, 0, -1), (3, 0, 1), (4, 0, 1), (2, 1, -1)],
                                                      [(3, 1, 1), (5, 1, 1), (5, 0, 1), (4, 1, 1)]])
        self.assertEqual(beside(MIXED, [[]]), [[(1, 0, -1), (2, 0, 1), (3, 0, 1), (1, 1, -1)],
                                               [(2, 1, 1), (4, 1, 1), (4, 0, 1), (3, 1, 1)], []])

    def test_without_passings(self):
        self.assertEqual(beside([[]], [[]]), [[], []])
        self.assertEqual(beside([[], []], [[]]), [[], [], []])
        self.assertEqual(beside([[]], CURL), [[]] + CURL)
        self.assertEqual(beside(CURL + [[]], CURL), CURL + [[], [(2, 0, 1), (2, 1, 1)]])

    def test_the_product_of_both_brackets(self):
        for one in few_drawings():
            for other in few_drawings():
                if len(one) + len(other) <= 3:
                    made = beside(one, other)
                    self.assertEqual(made, checked(made))
                    self.assertEqual(names_of(made), list(range(1, len(names_of(one) + names_of(other)) + 1)))
                    self.assertEqual(bracket(made), times(bracket(one), bracket(other)))
                    self.assertEqual(writhe(made), writhe(one) + writhe(other))
                    self.assertEqual(flat(made), flat(one) and flat(other))

    def test_too_many(self):
        self.assertEqual(len(names_of(beside([curls(5)], [curls(7)]))), 12)
        for one, other in (([curls(6)], [curls(7)]), ([curls(12)], CURL), (CURL, [curls(12)]), (HOPF, HOPF),
                           ([[], [], []], [[]]), ([[]], CHAIN), ([curls(12), []], [curls(12), []])):
            with self.assertRaises(TooMany):
                beside(one, other)

    def test_beginnings_tell_nothing(self):
        for one, other in ((TREFOIL, HOPF), (CURL + [[]], EIGHT), (MIXED, TWISTED)):
            for rows in begun_elsewhere(one):
                self.assertEqual(beside(rows, other), beside(one, other))
            for rows in begun_elsewhere(other):
                self.assertEqual(beside(one, rows), beside(one, other))

    def test_told_is_new(self):
        assert_own(self, beside, [list(row) for row in MIXED], [list(row) for row in TREFOIL])
        assert_own(self, beside, [[]], [[], []])
        row = [[]]
        told = beside(row, row)
        told[0].append(1)
        self.assertEqual((told[1], row), ([], [[]]))


def tied_by_words(one, spot, other, other_spot):
    """Point 36, word by word."""
    first = {name: place for place, name in enumerate(names_of(one), 1)}
    second = {name: place for place, name in enumerate(names_of(other), len(first) + 1)}
    string, other_string = string_of(one, spot), string_of(other, other_spot)
    ring = list(other[other_string])
    if ring:
        while ring[-1][:2] != other_spot:
            ring.append(ring.pop(0))
    rows = []
    for number, row in enumerate(one):
        made = []
        for passing in row:
            made.append((first[passing[0]],) + passing[1:])
            if number == string and passing[:2] == spot:
                made.extend((second[name], way, hand) for name, way, hand in ring)
        if number == string and not row:
            made.extend((second[name], way, hand) for name, way, hand in ring)
        rows.append(made)
    for number, row in enumerate(other):
        if number != other_string:
            rows.append([(second[name], way, hand) for name, way, hand in row])
    return checked(rows)


class TiedTest(unittest.TestCase):
    def test_worked(self):
        self.assertEqual(tied(CURL, (1, 0), CURL_LEFT, (1, 0)), [[(1, 0, 1), (2, 1, -1), (2, 0, -1), (1, 1, 1)]])
        self.assertEqual(tied(CURL, (1, 0), CURL_LEFT, (1, 1)), [[(1, 0, 1), (2, 0, -1), (2, 1, -1), (1, 1, 1)]])
        self.assertEqual(tied(CURL, (1, 1), CURL_LEFT, (1, 1)), [[(1, 0, 1), (1, 1, 1), (2, 0, -1), (2, 1, -1)]])
        self.assertEqual(tied(HOPF, (2, 0), MIXED, (7, 1)), [
            [(1, 0, 1), (2, 1, 1)], [(1, 1, 1), (2, 0, 1), (4, 1, 1), (6, 1, 1), (6, 0, 1), (5, 1, 1)],
            [(3, 0, -1), (4, 0, 1), (5, 0, 1), (3, 1, -1)]])

    def test_without_passings(self):
        self.assertEqual(tied([[]], (0, 2), [[]], (0, 2)), [[]])
        self.assertEqual(tied([[], []], (1, 2), CURL, (1, 0)), [[], [(1, 0, 1), (1, 1, 1)]])
        self.assertEqual(tied(CURL + [[]], (1, 2), CURL, (1, 1)), CURL + [[(2, 0, 1), (2, 1, 1)]])
        self.assertEqual(tied(CURL, (1, 0), [[], []], (1, 2)), CURL + [[]])
        self.assertEqual(tied(CURL, (1, 1), [[]] + CURL_LEFT, (1, 0)),
                         [[(1, 0, 1), (1, 1, 1), (2, 1, -1), (2, 0, -1)], []])
        self.assertEqual(tied([[], [], []], (0, 2), [[]], (0, 2)), [[], [], []])

    def test_each_spot(self):
        for one, other in product(few_drawings(), repeat=2):
            if len(one) + len(other) <= 4:
                for spot, other_spot in product(spots_of(one), spots_of(other)):
                    self.assertEqual(tied(one, spot, other, other_spot), tied_by_words(one, spot, other, other_spot))

    def test_the_bracket_beside_is_loop_times_the_tied_ones(self):
        for one, other in product(few_drawings(), repeat=2):
            if len(one) + len(other) <= 3:
                expected = bracket(beside(one, other))
                for spot, other_spot in list(product(spots_of(one), spots_of(other)))[::2]:
                    self.assertEqual(times(LOOP, bracket(tied(one, spot, other, other_spot))), expected)
            elif len(one) + len(other) == 4:
                spot, other_spot = spots_of(one)[-1], spots_of(other)[0]
                self.assertEqual(times(LOOP, bracket(tied(one, spot, other, other_spot))),
                                 times(bracket(one), bracket(other)))

    def test_what_else_holds(self):
        for one, other in product((TREFOIL, EIGHT, HOPF, CURL_LEFT, [[]], LAID), repeat=2):
            made = tied(one, spots_of(one)[0], other, spots_of(other)[-1])
            self.assertIs(flat(made), True)
            self.assertEqual(writhe(made), writhe(one) + writhe(other))
            self.assertEqual(names_of(made), list(range(1, len(names_of(one) + names_of(other)) + 1)))

    def test_the_strings_order(self):
        made = tied(HOPF, (1, 0), HALF_HOPF, (1, 1))
        self.assertEqual(made, [[(1, 0, 1), (3, 1, 1), (2, 1, 1)], [(1, 1, 1), (2, 0, 1)], [(3, 0, 1)]])
        self.assertEqual(linking(made), [[0, 1, 0], [1, 0, 0], [1, 0, 0]])
        made = tied([[]], (0, 2), CHAIN, (4, 1))
        self.assertEqual(made, [CHAIN[1], CHAIN[0], CHAIN[2]])

    def test_too_many(self):
        for one, spot, other, other_spot in (
                ([curls(6)], (1, 0), [curls(7)], (1, 0)), ([curls(12)], (1, 0), CURL, (1, 1)),
                (HOPF, (1, 0), CHAIN, (1, 0)), ([[], [], []], (0, 2), HOPF, (1, 0)), (HOPF, (1, 0), [[]] * 3, (0, 2))):
            for first, second in ((spot, other_spot), ((99, 0), other_spot), (spot, (99, 1)), ((0, 3), (-1, 2))):
                with self.assertRaises(TooMany):
                    tied(one, first, other, second)
        self.assertEqual(len(names_of(tied([curls(5)], (1, 0), [curls(7)], (7, 1)))), 12)
        self.assertEqual(len(tied(HOPF, (1, 0), HOPF, (1, 0))), 3)
        self.assertEqual(len(tied([[], [], []], (1, 2), [[]], (0, 2))), 3)

    def test_no_spot(self):
        wrong = ((99, 0), (2, 1), (0, 2), (-1, 2), (2, 2), (1, 3), (0, 0), (LONG, 1))
        drawing = CURL + [[]]
        for spot in wrong:
            for one, first, other, second in ((drawing, spot, TREFOIL, (1, 0)), (TREFOIL, (1, 0), drawing, spot),
                                              (drawing, spot, drawing, spot)):
                with self.assertRaises(NoSpot):
                    tied(one, first, other, second)

    def test_spots_are_told_by_the_old_names(self):
        old = renamed_drawing(TREFOIL, {1: 7, 2: 8, 3: 9})
        self.assertEqual(tied(old, (8, 0), CURL, (1, 1)), tied(TREFOIL, (2, 0), CURL, (1, 1)))
        self.assertEqual(tied(CURL, (1, 1), old, (8, 0)), tied(CURL, (1, 1), TREFOIL, (2, 0)))
        for spot in ((1, 0), (2, 1), (3, 0), (4, 0)):
            with self.assertRaises(NoSpot):
                tied(old, spot, CURL, (1, 1))
            with self.assertRaises(NoSpot):
                tied(CURL, (1, 1), old, spot)
        shifted_by_one = renamed_drawing(TREFOIL, {1: 2, 2: 3, 3: 4})
        self.assertEqual(tied(shifted_by_one, (2, 0), CURL, (1, 1)), tied(TREFOIL, (1, 0), CURL, (1, 1)))
        self.assertEqual(tied(CURL, (1, 0), shifted_by_one, (2, 0)), tied(CURL, (1, 0), TREFOIL, (1, 0)))

    def test_beginnings_tell_nothing(self):
        for one, other in ((TREFOIL, HOPF), (CURL + [[]], EIGHT), (MIXED, TWISTED)):
            spot, other_spot = spots_of(one)[1], spots_of(other)[2]
            for rows in begun_elsewhere(one):
                self.assertEqual(tied(rows, spot, other, other_spot), tied(one, spot, other, other_spot))
            for rows in begun_elsewhere(other):
                self.assertEqual(tied(one, spot, rows, other_spot), tied(one, spot, other, other_spot))

    def test_told_is_new(self):
        assert_own(self, tied, [list(row) for row in MIXED], (7, 0), [list(row) for row in HOPF], (2, 1))
        assert_own(self, tied, [[], []], (0, 2), [[]], (0, 2))
        assert_own(self, tied, [list(row) for row in TREFOIL], (1, 0), [[], []], (0, 2))


if __name__ == "__main__":
    unittest.main()
