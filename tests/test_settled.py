import unittest
from functools import cache
from itertools import permutations

from knotwise.braids import closed
from knotwise.drawings import checked, names_of
from knotwise.settled import settled, settling
from plane import polygon_drawings
from samples import (BENT, CHAIN, CURL, CURL_LEFT, EIGHT, FLAT, HALF_HOPF, HOPF, HOPF_LEFT, LAID, TREFOIL, TWISTED,
                     assert_own, begun_elsewhere, curls, renamed_drawing, small_drawings)
from settles import all_settlings, least, tangled

# Three strings with eight passings each; one with all twenty-four; two of unlike lengths and one without passings.
TWELVE = [closed([1, 2] * 6, 3), closed([1, -2] * 6, 3), closed([1, 1, 1, -2, 1, 2, 2, -1, 2, 1, 2, 1], 3),
          [curls(12)], [curls(12)[:9] + curls(12)[9:][::-1]],
          [curls(12)[::2] + curls(12)[1:9:2], [], curls(12)[9::2]]]


@cache
def many_drawings():
    drawings = FLAT + BENT + list(small_drawings())[::3] + [tangled(seed, most=12) for seed in range(30)]
    return drawings + [drawing for polygons, drawing, where in polygon_drawings(40, seed=31)]


class WrittenOutTest(unittest.TestCase):
    def test_no_crossings(self):
        for count in (1, 2, 3):
            drawing = [[] for string in range(count)]
            self.assertEqual(settled(drawing), drawing)
            self.assertEqual(settling(drawing), (drawing, {}))

    def test_one_crossing(self):
        self.assertEqual(settling([[(999, 1, -1), (999, 0, -1)]]), (CURL_LEFT, {999: 1}))
        self.assertEqual(settling([[], [(7, 1, 1)], [(7, 0, 1)]]), ([[], [(1, 1, 1)], [(1, 0, 1)]], {7: 1}))
        self.assertEqual(settling([[(2, 0, 1), (2, 1, 1)], []]), (CURL + [[]], {2: 1}))

    def test_the_lesser_hand_is_met_first(self):
        left_first = [[(1, 0, -1), (1, 1, -1), (2, 0, 1), (2, 1, 1)]]
        for one, other in ((1, 2), (2, 1), (40, 6), (6, 40)):
            row = [(one, 0, 1), (one, 1, 1), (other, 0, -1), (other, 1, -1)]
            self.assertEqual(settling([row]), (left_first, {other: 1, one: 2}))

    def test_what_is_over_is_met_first(self):
        self.assertEqual(settling([[(1, 0, 1), (2, 1, 1), (1, 1, 1), (2, 0, 1)]]), (TWISTED, {2: 1, 1: 2}))
        self.assertEqual(settling([[(3, 0, 1), (5, 0, 1), (3, 1, 1), (5, 1, 1)]]), (TWISTED, {3: 1, 5: 2}))

    def test_met_along_the_ring(self):
        # Begun with 3o: 1o 1u 2o 3u 2u 3o; with 1o: 1o 2u 1u 2o 3o 3u; with 2o: 1o 2o 2u 3o 1u 3u.
        row = [(1, 1, 1), (2, 0, 1), (3, 0, 1), (3, 1, 1), (1, 0, 1), (2, 1, 1)]
        told, names = settling([row])
        self.assertEqual(told, [[(1, 0, 1), (1, 1, 1), (2, 0, 1), (3, 1, 1), (2, 1, 1), (3, 0, 1)]])
        self.assertEqual(names, {3: 1, 1: 2, 2: 3})

    def test_a_name_first_met_on_another_string(self):
        drawing = [[(6, 1, 1), (9, 0, 1)], [(4, 0, 1), (3, 1, 1), (6, 0, 1), (3, 0, 1), (4, 1, 1), (9, 1, 1)]]
        told = [[(1, 0, 1), (2, 1, 1)], [(1, 1, 1), (3, 0, 1), (4, 1, 1), (2, 0, 1), (4, 0, 1), (3, 1, 1)]]
        self.assertEqual(settling(drawing), (told, {9: 1, 6: 2, 4: 3, 3: 4}))

    def test_met_string_by_string(self):
        drawing = [[(5, 0, 1), (4, 1, 1)], [(9, 0, -1), (8, 1, -1), (5, 1, 1), (4, 0, 1)], [(9, 1, -1), (8, 0, -1)]]
        told = [[(1, 0, 1), (2, 1, 1)], [(1, 1, 1), (2, 0, 1), (3, 0, -1), (4, 1, -1)], [(3, 1, -1), (4, 0, -1)]]
        self.assertEqual(settling(drawing), (told, {5: 1, 4: 2, 9: 3, 8: 4}))

    def test_samples_that_are_settled(self):
        for drawing in (TREFOIL, HOPF, HOPF_LEFT, CURL, CURL_LEFT, TWISTED, HALF_HOPF, CHAIN, [curls(12)]):
            self.assertEqual(settled(drawing), drawing)

    def test_samples_that_are_not(self):
        self.assertEqual(settled(LAID), [[(1, 0, -1), (2, 0, 1)], [(1, 1, -1), (2, 1, 1)]])
        self.assertEqual(settled(EIGHT), [[(1, 0, -1), (2, 1, 1), (3, 0, 1), (1, 1, -1), (4, 0, -1), (3, 1, 1),
                                           (2, 0, 1), (4, 1, -1)]])


class LeastTest(unittest.TestCase):
    def assert_settled(self, drawing):
        told = settling(drawing)
        self.assertIs(type(told), tuple)
        self.assertEqual(len(told), 2)
        self.assertEqual(told[0], least(drawing))
        self.assertEqual(settled(drawing), told[0])
        self.assertEqual(checked(told[0]), told[0])
        self.assertEqual(sorted(told[1]), names_of(drawing))
        self.assertEqual(sorted(told[1].values()), list(range(1, len(names_of(drawing)) + 1)))
        self.assertEqual(renamed_drawing(drawing, told[1]), told[0])
        self.assertIn(told, list(all_settlings(drawing)))

    def test_the_least_of_all_choices(self):
        for drawing in many_drawings():
            self.assert_settled(drawing)

    def test_twelve_crossings(self):
        for drawing in TWELVE:
            self.assertEqual(len(names_of(drawing)), 12)
            self.assert_settled(checked(drawing))

    def test_lying_the_same_way_from_several_beginnings(self):
        for drawing in (TREFOIL, HOPF, [curls(5)], [curls(2), curls(4)[4:]], closed([1, 2] * 4, 3), closed([1] * 8, 2)):
            least_ones = [names for made, names in all_settlings(drawing) if made == least(drawing)]
            self.assertGreater(len(least_ones), 1)
            self.assert_settled(drawing)


class AlikeTest(unittest.TestCase):
    def test_other_beginnings(self):
        for drawing in FLAT + BENT:
            for rows in begun_elsewhere(drawing):
                self.assertEqual(settled(rows), settled(drawing))

    def test_other_names(self):
        for drawing in many_drawings()[::2]:
            names = names_of(drawing)
            for others in (names[::-1], names[1:] + names[:1], [990 - 7 * name for name in names]):
                renaming = dict(zip(names, others))
                other = renamed_drawing(drawing, renaming)
                self.assertEqual(settled(other), settled(drawing))
                self.assertEqual(renamed_drawing(other, settling(other)[1]), settled(drawing))

    def test_settled_stays_settled(self):
        for drawing in many_drawings() + TWELVE:
            self.assertEqual(settled(settled(drawing)), settled(drawing))

    def test_just_where_they_are_alike(self):
        drawings = [checked(drawing) for drawing in small_drawings()]
        forms = {}
        for drawing in drawings:
            names = names_of(drawing)
            ways = [renamed_drawing(drawing, dict(zip(names, others))) for others in permutations(names)]
            forms[repr(drawing)] = (repr(min(ways)), repr(settled(drawing)))
        pairs = set(forms.values())
        self.assertGreater(len(pairs), 40)
        self.assertEqual(len(set(alike for alike, told in pairs)), len(pairs))
        self.assertEqual(len(set(told for alike, told in pairs)), len(pairs))

    def test_the_strings_keep_their_order(self):
        self.assertNotEqual(settled(HALF_HOPF), settled(HALF_HOPF[::-1]))
        self.assertNotEqual(settled([[]] + CURL), settled(CURL + [[]]))
        self.assertEqual([len(row) for row in settled(CHAIN[1:] + CHAIN[:1])], [4, 2, 2])

    def test_one_s_own(self):
        for drawing in FLAT + BENT + TWELVE[:1]:
            assert_own(self, settled, [list(row) for row in drawing])
            assert_own(self, settling, [list(row) for row in drawing])


if __name__ == "__main__":
    unittest.main()
