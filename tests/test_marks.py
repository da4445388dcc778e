import unittest
from itertools import permutations

from knotwise.brackets import bracket, bracket_by_all
from knotwise.drawings import checked, hand_of, names_of, spots_of
from knotwise.marks import levelled, linking, writhe
from knotwise.moves import Curl, move_of
from knotwise.polys import LOOP, shifted
from plane import polygon_drawings
from samples import (BENT, CHAIN, CURL, CURL_LEFT, EIGHT, FLAT, HALF_HOPF, HOPF, HOPF_LEFT, LAID, TREFOIL, TWISTED,
                     assert_own, begun_elsewhere, curls, renamed_drawing, small_drawings)
from walks import all_curls, all_lays, fitting, some_row, triangle


def did(drawing, told):
    return move_of(told).done(drawing)


def many_drawings():
    drawings = FLAT + BENT + list(small_drawings())[::3] + [triangle(1, (1, -1, -1)), triangle(-1, (1, 1, 1))]
    return drawings + [checked(drawing) for polygons, drawing, where in polygon_drawings(40, most=8, seed=11)]


class WrittenOutTest(unittest.TestCase):
    def test_no_crossings(self):
        for count in (1, 2, 3):
            drawing = [[] for string in range(count)]
            self.assertEqual(writhe(drawing), 0)
            self.assertEqual(linking(drawing), [[0] * count] * count)
            self.assertEqual(levelled(drawing), bracket(drawing))
        self.assertEqual(levelled([[]]), LOOP)

    def test_writhe(self):
        told = [writhe(drawing) for drawing in (TREFOIL, EIGHT, HOPF, HOPF_LEFT, LAID, CURL, CURL_LEFT, CHAIN, HALF_HOPF)]
        self.assertEqual(told, [3, 0, 2, -2, 0, 1, -1, 0, 1])
        self.assertEqual(writhe([curls(12)]), 12)

    def test_linking(self):
        self.assertEqual(linking(TREFOIL), [[0]])
        self.assertEqual(linking(CURL_LEFT + [[]]), [[0, 0], [0, 0]])
        self.assertEqual(linking(HOPF), [[0, 1], [1, 0]])
        self.assertEqual(linking(HOPF_LEFT), [[0, -1], [-1, 0]])
        self.assertEqual(linking(LAID), [[0, 0], [0, 0]])
        self.assertEqual(linking(HALF_HOPF), [[0, 1], [0, 0]])
        self.assertEqual(linking(HALF_HOPF[::-1]), [[0, 0], [1, 0]])
        self.assertEqual(linking(CHAIN), [[0, 1, 0], [1, 0, -1], [0, -1, 0]])

    def test_linking_of_three_with_themselves_too(self):
        drawing = [[(1, 0, -1), (2, 0, -1), (3, 0, 1), (4, 1, 1)], [(1, 1, -1), (2, 1, -1), (5, 0, 1), (5, 1, 1)],
                   [(3, 1, 1), (4, 0, 1), (6, 1, -1), (6, 0, -1)]]
        self.assertEqual(linking(drawing), [[0, -2, 1], [0, 0, 0], [1, 0, 0]])
        self.assertEqual(writhe(drawing), 0)

    def test_levelled(self):
        self.assertEqual(levelled(CURL), LOOP)
        self.assertEqual(levelled(CURL_LEFT), LOOP)
        self.assertEqual(levelled([curls(11)]), LOOP)
        self.assertEqual(levelled(TREFOIL), {-18: 1, -10: -1, -6: -1, -2: -1})
        self.assertEqual(levelled(EIGHT), {10: -1, -10: -1})
        self.assertEqual(levelled(HOPF), {0: 1, -4: 1, -8: 1, -12: 1})
        self.assertEqual(levelled(HOPF_LEFT), {0: 1, 4: 1, 8: 1, 12: 1})
        self.assertEqual(levelled(HALF_HOPF), {-6: 1, -4: 1, -2: 1, 0: 1})

    def test_by_the_words_of_the_document(self):
        for drawing in many_drawings():
            hands = {passing[0]: passing[2] for row in drawing for passing in row}
            self.assertEqual(writhe(drawing), sum(hands.values()))
            self.assertEqual(levelled(drawing), {power - 3 * writhe(drawing): (-1) ** writhe(drawing) * number
                                                 for power, number in bracket_by_all(drawing).items()})
            rows = []
            for one in drawing:
                over = [passing for passing in one if passing[1] == 0]
                rows.append([0 if other is one else sum(hand for name, way, hand in over if (name, 1, hand) in other)
                             for other in drawing])
            self.assertEqual(linking(drawing), rows)

    def test_beginnings_and_names_tell_nothing(self):
        for drawing in (TREFOIL, CHAIN, TWISTED, HALF_HOPF + [[]]):
            others = begun_elsewhere(drawing)
            others += [renamed_drawing(drawing, dict(zip((1, 2, 3, 4), names))) for names in permutations((9, 1, 3, 2))]
            for rows in others:
                self.assertEqual(writhe(rows), writhe(drawing))
                self.assertEqual(linking(rows), linking(drawing))
                self.assertEqual(levelled(rows), levelled(drawing))

    def test_told_is_new(self):
        for drawing in (TREFOIL, CHAIN, [[]], [[], [], []], CURL_LEFT, HALF_HOPF):
            for function in (writhe, linking, levelled):
                assert_own(self, function, [list(row) for row in drawing])
        self.assertEqual(LOOP, {2: -1, -2: -1})


class NoMoveChangesTest(unittest.TestCase):
    def test_each_move(self):
        words = set()
        for drawing in many_drawings():
            marks = (linking(drawing), levelled(drawing))
            for told in list(all_curls(drawing, 50))[::3] + list(all_lays(drawing, 60, 51))[::9] + fitting(drawing):
                words.add(told[0])
                made = did(drawing, told)
                self.assertEqual((linking(made), levelled(made)), marks, (drawing, told))
                if told[0] in ("slide", "part", "lay"):
                    self.assertEqual((bracket(made), writhe(made)), (bracket(drawing), writhe(drawing)))
        self.assertEqual(len(words), 5)

    def test_rows_of_moves(self):
        for seed, drawing in enumerate(FLAT + BENT):
            row = some_row(drawing, did, 25, seed + 300)
            for ahead, told in row + [(did(*row[-1]), None)]:
                self.assertEqual(linking(ahead), linking(drawing))
                self.assertEqual(levelled(ahead), levelled(drawing))

    def test_a_curl_of_either_hand(self):
        for drawing in (TREFOIL, EIGHT, CHAIN, HALF_HOPF, TWISTED, [[]], CURL + [[]]):
            for spot in spots_of(drawing):
                for first in (0, 1):
                    for hand in (1, -1):
                        made = Curl(77, spot, first, hand).done(drawing)
                        self.assertEqual(writhe(made), writhe(drawing) + hand)
                        self.assertEqual(bracket(made), shifted(bracket(drawing), 3 * hand, -1))

    def test_an_uncurl(self):
        for drawing in many_drawings():
            for told in fitting(drawing):
                if told[0] == "uncurl":
                    hand = hand_of(drawing, told[1])
                    made = did(drawing, told)
                    self.assertEqual(len(names_of(made)), len(names_of(drawing)) - 1)
                    self.assertEqual(writhe(made), writhe(drawing) - hand)
                    self.assertEqual(bracket(made), shifted(bracket(drawing), -3 * hand, -1))


if __name__ == "__main__":
    unittest.main()
