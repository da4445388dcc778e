import unittest
from itertools import permutations, product

from knotwise.drawings import checked, names_of
from knotwise.fits import lessening
from knotwise.moves import move_of
from plane import polygon_drawings
from samples import (BENT, CHAIN, CURL, EIGHT, FLAT, HALF_HOPF, HOPF, LAID, TREFOIL, assert_own, begun_elsewhere, curls,
                     renamed_drawing, small_drawings)
from walks import fitting, some_row, triangle

# Two uncurls, a part and a slide at once.
ALL_WORDS = [[(1, 0, 1), (2, 0, 1), (9, 1, -1), (9, 0, -1), (1, 1, 1), (3, 0, 1), (8, 0, 1), (7, 0, -1), (8, 1, 1),
              (7, 1, -1), (2, 1, 1), (3, 1, 1), (6, 0, -1), (6, 1, -1)]]


def fenced(pairs):
    """A row of the three pairs with other crossings' passings between them."""
    one, two, three = pairs
    return one + [(27, 1, 1)] + two + [(28, 1, 1)] + three + [(29, 1, 1), (28, 0, 1), (27, 0, 1), (29, 0, 1)]


def by_the_document(drawing):
    return [told for told in fitting(drawing) if told[0] != "part" or told[1] < told[2]]


class LesseningTest(unittest.TestCase):
    def test_none(self):
        for drawing in (TREFOIL, EIGHT, HOPF, CHAIN, HALF_HOPF, [[]], [[], [], []]):
            self.assertEqual(lessening(drawing), [])

    def test_one_word_or_two(self):
        self.assertEqual(lessening(CURL), [("uncurl", 1)])
        self.assertEqual(lessening([[]] + CURL), [("uncurl", 1)])
        self.assertEqual(lessening(LAID), [("part", 1, 2)])
        self.assertEqual(lessening([sum(triangle(1, (1, 1, 1)), [])]), [("slide", 1, 2, 3, 1)])
        self.assertEqual(lessening([sum(triangle(-1, (1, 1, 1)), [])]), [("slide", 1, 2, 3, -1), ("uncurl", 2)])

    def test_all_three_words(self):
        self.assertEqual(lessening(ALL_WORDS), [("part", 7, 8), ("slide", 1, 2, 3, 1), ("uncurl", 6), ("uncurl", 9)])

    def test_the_lesser_name_first_in_a_part(self):
        for names in ((1, 2), (2, 1)):
            rows = renamed_drawing([[(1, 0, 1), (2, 0, -1), (5, 1, 1)], [(1, 1, 1), (2, 1, -1), (5, 0, 1)]],
                                   {1: names[0], 2: names[1]})
            self.assertEqual(lessening(rows), [("part", 1, 2)])
        self.assertEqual(lessening([[(10, 0, 1), (9, 0, -1)], [(9, 1, -1), (10, 1, 1)]]), [("part", 9, 10)])

    def test_a_slide_for_each_way_about(self):
        self.assertEqual(lessening(triangle(1, (1, 1, 1))), [("slide", 1, 2, 3, -1), ("slide", 1, 2, 3, 1)])
        for turn in (1, -1):
            for hands in product((1, -1), repeat=3):
                for names in permutations((4, 5, 6)):
                    told = lessening([fenced(triangle(turn, hands, names))])
                    self.assertEqual([one for one in told if set(one[1:4]) == {4, 5, 6}], [("slide", *names, turn)])

    def test_sorted_by_numbers(self):
        self.assertEqual(lessening([curls(12)]), [("uncurl", name) for name in range(1, 13)])
        self.assertEqual(lessening([[(10, 0, 1), (10, 1, 1)], [(9, 0, 1), (9, 1, 1)]]), [("uncurl", 9), ("uncurl", 10)])
        told = lessening(renamed_drawing(ALL_WORDS, {6: 10, 9: 100, 7: 30}))
        self.assertEqual(told, [("part", 8, 30), ("slide", 1, 2, 3, 1), ("uncurl", 10), ("uncurl", 100)])

    def test_by_the_words_of_the_document(self):
        drawings = FLAT + BENT + list(small_drawings())
        drawings += [drawing for polygons, drawing, where in polygon_drawings(60)]
        words = set()
        for drawing in drawings:
            told = lessening(drawing)
            self.assertEqual(told, by_the_document(drawing))
            words.update(one[0] for one in told)
        self.assertEqual(words, {"part", "slide", "uncurl"})

    def test_in_rows_of_moves(self):
        for seed, drawing in enumerate(FLAT + BENT):
            for ahead, told in some_row(drawing, lambda rows, one: move_of(one).done(rows), 15, seed + 100, most=9):
                self.assertEqual(lessening(ahead), by_the_document(ahead))

    def test_each_can_be_done_and_adds_no_crossing(self):
        for polygons, drawing, where in polygon_drawings(60):
            for told in lessening(drawing):
                made = move_of(told).done(drawing)
                less = {"uncurl": 1, "part": 2, "slide": 0}[told[0]]
                self.assertEqual(len(names_of(made)), len(names_of(drawing)) - less)

    def test_a_renamed_drawing_tells_the_same_renamed(self):
        drawings = [ALL_WORDS, LAID, CURL, triangle(1, (1, -1, 1))]
        drawings += [checked(drawing) for polygons, drawing, where in polygon_drawings(30)]
        for drawing in drawings:
            names = names_of(drawing)
            for others in (names[1:] + names[:1], names[::-1], [999 - 7 * name for name in names]):
                renaming = dict(zip(names, others))
                told = [move_of(one).renamed(renaming).told() for one in lessening(drawing)]
                told = [("part", *sorted(one[1:])) if one[0] == "part" else one for one in told]
                self.assertEqual(lessening(renamed_drawing(drawing, renaming)), sorted(told))

    def test_beginnings_tell_nothing(self):
        for drawing in (ALL_WORDS, LAID, CURL + [[]], triangle(-1, (1, 1, -1))):
            for rows in begun_elsewhere(drawing):
                self.assertEqual(lessening(rows), lessening(drawing))

    def test_told_is_new(self):
        for drawing in (ALL_WORDS, LAID, CURL, [[]], TREFOIL):
            assert_own(self, lessening, [list(row) for row in drawing])


if __name__ == "__main__":
    unittest.main()
