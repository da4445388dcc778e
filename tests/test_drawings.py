import unittest

from knotwise.drawings import checked, hand_of, names_of, next_of, seated, spots_of, string_of
from knotwise.errors import NoDrawing, NoName, NoSpot
from samples import (BENT, CHAIN, CURL, EIGHT, FLAT, HALF_HOPF, HOPF, TREFOIL, TWISTED, assert_own, begun_elsewhere,
                     curls, small_drawings)

LONG = 10 ** 60 - 1


class SeatedTest(unittest.TestCase):
    def test_nothing(self):
        row = []
        told = seated(row)
        self.assertEqual(told, [])
        told.append((1, 0, 1))
        self.assertEqual(row, [])
        self.assertEqual(seated([]), [])

    def test_wherever_it_begins(self):
        row = TREFOIL[0]
        for start in range(6):
            self.assertEqual(seated(row[start:] + row[:start]), row)

    def test_least_name_then_way_0(self):
        self.assertEqual(seated([(2, 0, 1), (1, 1, -1), (1, 0, -1), (2, 1, 1)]),
                         [(1, 0, -1), (2, 1, 1), (2, 0, 1), (1, 1, -1)])
        self.assertEqual(seated([(5, 1, 1), (5, 0, 1)]), [(5, 0, 1), (5, 1, 1)])
        self.assertEqual(seated([(5, 0, -1), (5, 1, 1)]), [(5, 0, -1), (5, 1, 1)])

    def test_rows_of_no_drawing(self):
        self.assertEqual(seated([(9, 0, 1), (4, 1, 1), (7, 0, -1)]), [(4, 1, 1), (7, 0, -1), (9, 0, 1)])
        self.assertEqual(seated([(10, 0, 1), (9, 1, -1)]), [(9, 1, -1), (10, 0, 1)])
        self.assertEqual(seated([(3, 1, 1)]), [(3, 1, 1)])

    def test_forty_passings(self):
        row = curls(20)
        self.assertEqual(seated(row[17:] + row[:17]), row)

    def test_another_list(self):
        for row in ([], [(1, 0, 1)], list(TREFOIL[0]), TREFOIL[0][2:] + TREFOIL[0][:2]):
            assert_own(self, seated, list(row))


class CheckedTest(unittest.TestCase):
    def refused(self, rows, word, place):
        with self.assertRaises(NoDrawing) as taken:
            checked(rows)
        self.assertEqual((taken.exception.word, taken.exception.place), (word, place))

    def test_drawings_are_told(self):
        for drawing in FLAT + BENT + [[curls(12)], [curls(12), [], []]]:
            self.assertEqual(checked(drawing), drawing)

    def test_begun_elsewhere(self):
        for drawing in (TREFOIL, HOPF, CHAIN, CURL, [[]] + TWISTED):
            for rows in begun_elsewhere(drawing):
                self.assertEqual(checked(rows), drawing)

    def test_strings_keep_their_order(self):
        self.assertEqual(checked([[], [(2, 1, 1)], [(2, 0, 1)]]), [[], [(2, 1, 1)], [(2, 0, 1)]])

    def test_told_is_new(self):
        for drawing in (EIGHT, TREFOIL, HOPF, CHAIN, [[]], [[], []]):
            assert_own(self, checked, [list(row) for row in drawing])

    def test_one_row_twice_in_the_list(self):
        empty = []
        assert_own(self, checked, [[], []])
        told = checked([empty, empty])
        told[0].append((1, 0, 1))
        self.assertEqual((told[1], empty), ([], []))

    def test_strings(self):
        self.refused([], "strings", 0)
        self.refused([[], [], [], []], "strings", 4)
        self.refused([[]] * 40, "strings", 40)

    def test_names(self):
        for name in (0, -1, 1000, LONG, -LONG):
            self.refused([[(name, 0, 1), (name, 1, 1)]], "name", 0)
            self.refused([[(1, 0, 1)], [(1, 1, 1), (name, 0, 1)]], "name", 2)
        self.assertEqual(checked([[(999, 0, 1), (999, 1, 1)]]), [[(999, 0, 1), (999, 1, 1)]])
        self.assertEqual(checked([[(1, 0, 1), (1, 1, 1)]]), [[(1, 0, 1), (1, 1, 1)]])

    def test_ways(self):
        for way in (2, -1, LONG, -LONG):
            self.refused([[(3, way, 1), (3, 0, 1)]], "way", 0)
            self.refused([[(3, 0, 1), (3, 1, 1)], [], [(4, way, 1)]], "way", 2)

    def test_hands(self):
        for hand in (0, 2, -2, LONG, -LONG):
            self.refused([[(3, 0, hand), (3, 1, hand)]], "hand", 0)
            self.refused([[(3, 0, 1)], [(3, 1, hand)]], "hand", 1)

    def test_twice(self):
        self.refused([[(3, 0, 1), (3, 0, 1)]], "twice", 1)
        self.refused([[(3, 0, 1), (3, 0, -1)]], "twice", 1)
        self.refused([[(3, 0, 1), (3, 1, 1)], [], [(4, 0, 1), (3, 1, 1)]], "twice", 3)
        self.refused([[(3, 0, 1), (3, 1, 1), (3, 1, -1)]], "twice", 2)

    def test_lone(self):
        self.refused([[(8, 0, 1)]], "lone", 8)
        self.refused([[(8, 1, 1)]], "lone", 8)
        self.refused([[(999, 1, 1), (2, 0, 1), (2, 1, 1)]], "lone", 999)

    def test_unlike_hands(self):
        self.refused([[(8, 0, 1), (8, 1, -1)]], "hands", 8)
        self.refused([[(8, 1, 1)], [(8, 0, -1)]], "hands", 8)

    def test_many(self):
        self.refused([curls(13)], "many", 13)
        self.refused([curls(20)], "many", 20)
        self.assertEqual(checked([curls(12)]), [curls(12)])

    def test_strings_ahead_of_passings(self):
        self.refused([[(0, 5, 5)], [], [], []], "strings", 4)

    def test_within_one_passing(self):
        self.refused([[(0, 2, 0)]], "name", 0)
        self.refused([[(1, 2, 0)]], "way", 0)
        self.refused([[(1, 0, 1), (1, 0, 0)]], "hand", 1)
        self.refused([[(1, 2, 1), (1, 2, 1)]], "way", 0)
        self.refused([[(1, 0, 1), (1, 2, 0)]], "way", 1)

    def test_the_first_passing_first(self):
        self.refused([[(1, 0, 1), (1, 0, 1)], [(0, 0, 1)]], "twice", 1)
        self.refused([[(1, 0, 3), (0, 0, 1)]], "hand", 0)
        self.refused([[(1, 4, 1)], [(0, 0, 1)]], "way", 0)
        self.refused([[], [(2, 0, 1), (2, 1, 1)], [(3, 0, 7), (0, 0, 1)]], "hand", 2)

    def test_passings_ahead_of_names(self):
        self.refused([[(1, 0, 1), (2, 0, 1), (2, 1, -1), (3, 0, 2)]], "hand", 3)
        self.refused([[(1, 0, 1)], [(2, 0, 1), (2, 0, 1)]], "twice", 2)

    def test_name_by_name(self):
        self.refused([[(5, 0, 1), (2, 0, 1), (2, 1, -1)]], "hands", 2)
        self.refused([[(5, 0, 1), (5, 1, -1), (2, 0, 1)]], "lone", 2)
        self.refused([[(10, 0, 1), (9, 0, 1)]], "lone", 9)
        self.refused([[(8, 0, 1), (1, 0, 1)]], "lone", 1)
        self.refused([[(64, 0, 1), (64, 1, -1), (5, 1, 1)], [(999, 1, 1)]], "lone", 5)
        self.refused([[(10, 0, 1), (10, 1, -1), (9, 0, 1), (9, 1, -1)]], "hands", 9)

    def test_names_ahead_of_many(self):
        self.refused([curls(13) + [(99, 0, 1)]], "lone", 99)
        self.refused([curls(13), [(99, 0, 1), (99, 1, -1)]], "hands", 99)

    def test_faults_leave_the_rows(self):
        rows = [[(2, 0, 1), (1, 0, 1)], [(1, 1, -1)]]
        self.refused(rows, "hands", 1)
        self.assertEqual(rows, [[(2, 0, 1), (1, 0, 1)], [(1, 1, -1)]])


class AskedTest(unittest.TestCase):
    def test_names(self):
        self.assertEqual(names_of(TREFOIL), [1, 2, 3])
        self.assertEqual(names_of([[(10, 1, 1), (9, 0, 1)], [(10, 0, 1), (9, 1, 1)], []]), [9, 10])
        self.assertEqual(names_of([[], []]), [])
        self.assertEqual(names_of(CHAIN), [1, 2, 3, 4])

    def test_hands(self):
        self.assertEqual([hand_of(CHAIN, name) for name in (1, 2, 3, 4)], [1, 1, -1, -1])
        self.assertEqual([hand_of(EIGHT, name) for name in (1, 2, 3, 4)], [-1, -1, 1, 1])

    def test_no_such_name(self):
        for drawing, name in ((TREFOIL, 4), (TREFOIL, 0), (TREFOIL, -1), ([[], []], 0), ([[], []], 1),
                              (TREFOIL, LONG)):
            with self.assertRaises(NoName):
                hand_of(drawing, name)

    def test_spots(self):
        self.assertEqual(spots_of(HOPF), [(1, 0), (1, 1), (2, 0), (2, 1)])
        self.assertEqual(spots_of([[], [(1, 1, 1), (1, 0, 1)], []]), [(0, 2), (1, 0), (1, 1), (2, 2)])
        self.assertEqual(spots_of([[(1, 1, 1), (1, 0, 1)], []]), [(1, 0), (1, 1), (1, 2)])
        self.assertEqual(spots_of([[]]), [(0, 2)])
        self.assertEqual(spots_of([[(10, 0, 1)], [(9, 0, 1), (9, 1, 1), (10, 1, 1)]]),
                         [(9, 0), (9, 1), (10, 0), (10, 1)])

    def test_next(self):
        self.assertEqual(next_of(TREFOIL), {(1, 0): (2, 1), (2, 1): (3, 0), (3, 0): (1, 1), (1, 1): (2, 0),
                                            (2, 0): (3, 1), (3, 1): (1, 0)})
        self.assertEqual(next_of(HALF_HOPF), {(1, 0): (1, 0), (1, 1): (1, 1)})
        self.assertEqual(next_of([[], []]), {})
        self.assertEqual(next_of(CURL + [[]]), {(1, 0): (1, 1), (1, 1): (1, 0)})

    def test_next_stays_on_its_string(self):
        self.assertEqual(next_of(HOPF), {(1, 0): (2, 1), (2, 1): (1, 0), (1, 1): (2, 0), (2, 0): (1, 1)})

    def test_string_of(self):
        self.assertEqual([string_of(CHAIN, spot) for spot in ((1, 0), (2, 0), (4, 1), (3, 1))], [0, 1, 1, 2])
        self.assertEqual(string_of([[], [(1, 0, 1), (1, 1, 1)], []], (2, 2)), 2)
        self.assertEqual(string_of([[], [(1, 0, 1), (1, 1, 1)], []], (0, 2)), 0)
        self.assertEqual(string_of([[(1, 0, 1), (1, 1, 1)], []], (1, 2)), 1)
        self.assertEqual(string_of([[(1, 0, 1), (1, 1, 1)], []], (1, 1)), 0)
        self.assertEqual(string_of(HALF_HOPF, (1, 1)), 1)

    def test_no_such_spot(self):
        curl = CURL + [[]]
        for drawing, spot in ((curl, (0, 2)), (curl, (2, 2)), (curl, (-1, 2)), (curl, (2, 0)), (curl, (0, 0)),
                              (curl, (1, 3)), (curl, (1, -1)), ([[]], (0, 0)), ([[]], (0, 1)), (TREFOIL, (1, 2)),
                              (TREFOIL, (4, 1)), (TREFOIL, (LONG, 0)), ([[]], (LONG, 2))):
            with self.assertRaises(NoSpot):
                string_of(drawing, spot)

    def test_beginnings_tell_nothing(self):
        for drawing in (TREFOIL, EIGHT, CHAIN, CURL + [[]], HALF_HOPF):
            for rows in begun_elsewhere(drawing):
                self.assertEqual(names_of(rows), names_of(drawing))
                self.assertEqual(spots_of(rows), spots_of(drawing))
                self.assertEqual(next_of(rows), next_of(drawing))
                for name in names_of(drawing):
                    self.assertEqual(hand_of(rows, name), hand_of(drawing, name))
                for spot in spots_of(drawing):
                    self.assertEqual(string_of(rows, spot), string_of(drawing, spot))

    def test_small_drawings(self):
        for drawing in small_drawings():
            self.assertEqual(checked(drawing), [seated(row) for row in drawing])
            spots = spots_of(drawing)
            self.assertEqual(spots, sorted(spots))
            for spot, after in next_of(drawing).items():
                row = [passing[:2] for passing in drawing[string_of(drawing, spot)]]
                self.assertEqual(row[(row.index(spot) + 1) % len(row)], after)

    def test_told_is_new(self):
        for function in (names_of, spots_of, next_of):
            for drawing in (TREFOIL, CHAIN, [[], []], HALF_HOPF):
                assert_own(self, function, [list(row) for row in drawing])
        for drawing in (TREFOIL, CHAIN, HALF_HOPF):
            assert_own(self, hand_of, [list(row) for row in drawing], 1)
            assert_own(self, string_of, [list(row) for row in drawing], (1, 0))


if __name__ == "__main__":
    unittest.main()
