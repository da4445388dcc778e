import unittest
from itertools import product
from random import Random

from knotwise.braids import closed
from knotwise.colours import count_colourings
from knotwise.drawings import checked, spots_of
from knotwise.errors import NoBraid
from knotwise.fits import lessening
from knotwise.makings import reflected, switched
from knotwise.marks import levelled, linking, writhe
from knotwise.moves import Lay, Part, Uncurl, move_of
from knotwise.sides import flat, near, pieces, regions
from samples import EIGHT, HOPF, HOPF_LEFT, TREFOIL, assert_as_flat, assert_own, renamed_drawing
from walks import all_curls, fitting, lays, some_row

LONG = 10 ** 60 - 1


def words(strands, most):
    """All words of at most so many letters."""
    letters = [letter for letter in range(1 - strands, strands) if letter]
    for length in range(most + 1):
        for word in product(letters, repeat=length):
            yield list(word)


def some_words(count, least, most, seed):
    """So many (word, strands) of two or three strands by chance."""
    chance = Random(seed)
    for turn in range(count):
        strands = chance.choice([2, 3, 3])
        letters = [letter for letter in range(1 - strands, strands) if letter]
        yield [chance.choice(letters) for place in range(chance.randrange(least, most + 1))], strands


def drawn_level_by_level(letters, strands):
    """Point 37 with all strands going down together."""
    at = list(range(strands))
    passings = [[] for strand in at]
    for name, letter in enumerate(letters, 1):
        right, left = at[abs(letter)], at[abs(letter) - 1]
        over, under, hand = (right, left, 1) if letter > 0 else (left, right, -1)
        passings[over].append((name, 0, hand))
        passings[under].append((name, 1, hand))
        at[abs(letter) - 1], at[abs(letter)] = right, left
    ends = {strand: place for place, strand in enumerate(at)}
    rows, left = [], set(range(strands))
    while left:
        strand, row = min(left), []
        while strand in left:
            left.remove(strand)
            row += passings[strand]
            strand = ends[strand]
        rows.append(row)
    return checked(rows)


def marks(drawing):
    return [len(drawing), linking(drawing), levelled(drawing)] + [count_colourings(drawing, p) for p in (3, 5, 7)]


def did(drawing, told):
    return move_of(told).done(drawing)


class ClosedTest(unittest.TestCase):
    def test_no_letters(self):
        self.assertEqual(closed([], 1), [[]])
        self.assertEqual(closed([], 2), [[], []])
        self.assertEqual(closed([], 3), [[], [], []])

    def test_letters_of_both_signs(self):
        self.assertEqual(closed([1], 2), [[(1, 0, 1), (1, 1, 1)]])
        self.assertEqual(closed([-1], 2), [[(1, 0, -1), (1, 1, -1)]])
        self.assertEqual(closed([1, 1], 2), [[(1, 1, 1), (2, 0, 1)], [(1, 0, 1), (2, 1, 1)]])
        self.assertEqual(closed([-1, -1], 2), [[(1, 0, -1), (2, 1, -1)], [(1, 1, -1), (2, 0, -1)]])
        self.assertEqual(closed([1, -1], 2), [[(1, 1, 1), (2, 1, -1)], [(1, 0, 1), (2, 0, -1)]])
        self.assertEqual(closed([-1, 1], 2), [[(1, 0, -1), (2, 0, 1)], [(1, 1, -1), (2, 1, 1)]])

    def test_knots(self):
        self.assertEqual(closed([1, 1, 1], 2), TREFOIL)
        self.assertEqual(marks(closed([1, -2, 1, -2], 3)), marks(EIGHT))
        self.assertEqual(closed([1, 1], 2), HOPF[::-1])
        self.assertEqual(closed([-1, -1], 2), HOPF_LEFT)

    def test_a_strand_that_no_letter_changes(self):
        self.assertEqual(closed([1], 3), [[(1, 0, 1), (1, 1, 1)], []])
        self.assertEqual(closed([2], 3), [[], [(1, 0, 1), (1, 1, 1)]])
        self.assertEqual(closed([-2, -2], 3), [[], [(1, 0, -1), (2, 1, -1)], [(1, 1, -1), (2, 0, -1)]])
        self.assertEqual(closed([1, 1], 3), [[(1, 1, 1), (2, 0, 1)], [(1, 0, 1), (2, 1, 1)], []])

    def test_the_strings_order_and_where_each_begins(self):
        self.assertEqual(closed([2, 1], 3), [[(1, 0, 1), (2, 0, 1), (2, 1, 1), (1, 1, 1)]])
        self.assertEqual(closed([1, 2, 1], 3), [[(1, 1, 1), (2, 1, 1), (2, 0, 1), (3, 0, 1)], [(1, 0, 1), (3, 1, 1)]])
        self.assertEqual(closed([2, 1, 2], 3), [[(1, 0, 1), (2, 0, 1), (2, 1, 1), (3, 1, 1)], [(1, 1, 1), (3, 0, 1)]])
        self.assertEqual(closed([-1, 2, 2, 1], 3), [[(1, 0, -1), (2, 1, 1), (3, 0, 1), (4, 0, 1)],
                                                   [(1, 1, -1), (4, 1, 1)], [(2, 0, 1), (3, 1, 1)]])

    def test_goes_down(self):
        self.assertEqual(closed([1, 1, -1, 1], 2), [[(1, 1, 1), (2, 0, 1), (3, 0, -1), (4, 0, 1)],
                                                    [(1, 0, 1), (2, 1, 1), (3, 1, -1), (4, 1, 1)]])

    def test_level_by_level(self):
        for strands, most in ((1, 0), (2, 6), (3, 4)):
            for word in words(strands, most):
                self.assertEqual(closed(word, strands), drawn_level_by_level(word, strands), word)
        for word, strands in some_words(300, 5, 12, 1):
            self.assertEqual(closed(word, strands), drawn_level_by_level(word, strands), word)

    def test_twelve_letters(self):
        made = closed([1] * 12, 2)
        self.assertEqual(writhe(made), 12)
        self.assertEqual(linking(made), [[0, 6], [6, 0]])

    def test_refused(self):
        for letters, strands in (
                ([1] * 13, 2), ([1] * 40, 2), ([1, 2] * 7, 3), ([0], 2), ([0], 3), ([0], 1), ([1, 0, 1], 2), ([2], 2),
                ([-2], 2), ([1], 1), ([-1], 1), ([3], 3), ([-3], 3), ([1, 2, 3], 3), ([1, -1, 2], 2), ([LONG], 3),
                ([-LONG], 3), ([], 0), ([], 4), ([], -1), ([], LONG), ([], -LONG), ([1], 4), ([1], 0), ([3], 4),
                ([1], LONG), ([1], -2), ([LONG], LONG), ([0] * 13, 4), ([1] * 13, 0)):
            with self.assertRaises(NoBraid):
                closed(letters, strands)

    def test_told_is_new(self):
        for letters, strands in (([], 1), ([], 3), ([1, 1, 1], 2), ([1, -2, 1], 3), ([2], 3)):
            assert_own(self, closed, list(letters), strands)

    def test_other_signs_are_switched(self):
        for word, strands in some_words(60, 1, 8, 2):
            self.assertEqual(closed([-letter for letter in word], strands), switched(closed(word, strands)))
            self.assertEqual(writhe(closed(word, strands)), sum(1 if letter > 0 else -1 for letter in word))


class FlatTest(unittest.TestCase):
    def is_flat(self, drawing):
        self.assertIs(flat(drawing), True, drawing)
        names = sum(len(row) for row in drawing) // 2
        self.assertEqual(len(regions(drawing)), names + 2 * len(pieces(drawing)))
        assert_as_flat(self, drawing)

    def test_braids(self):
        for strands, most in ((1, 0), (2, 5), (3, 4)):
            for word in words(strands, most):
                self.is_flat(closed(word, strands))
        for word, strands in some_words(150, 5, 12, 3):
            self.is_flat(closed(word, strands))

    def test_the_other_hand_at_one_crossing_is_not(self):
        made = closed([1, 1, 1], 2)
        self.assertIs(flat([[(name, way, -hand if name == 2 else hand) for name, way, hand in made[0]]]), False)

    def test_moves_of_braids(self):
        seen = set()
        for word, strands in some_words(40, 2, 8, 4):
            drawing = closed(word, strands)
            for told in list(all_curls(drawing, 50))[::5] + fitting(drawing):
                self.is_flat(did(drawing, told))
                seen.add(told[0])
        self.assertEqual(seen, {"curl", "uncurl", "part", "slide"})

    def test_near_lays_of_braids(self):
        told = 0
        for word, strands in some_words(12, 1, 6, 5):
            drawing = closed(word, strands)
            for over, under, turned, hand in lays(drawing):
                if near(drawing, over, under, turned, hand):
                    told += 1
                    self.is_flat(Lay(50, 51, over, under, turned, hand).done(drawing))
        self.assertGreater(told, 200)

    def test_rows_of_moves_of_braids(self):
        def done_flat(drawing, told):
            if told[0] == "lay" and (told[4] not in spots_of(drawing) or not near(drawing, *told[3:])):
                return drawing
            return did(drawing, told)

        for seed, (word, strands) in enumerate(some_words(12, 2, 8, 6)):
            for ahead, told in some_row(closed(word, strands), done_flat, 20, seed):
                self.is_flat(ahead)


class SameBraidTest(unittest.TestCase):
    def same(self, one, other, strands):
        first, second = closed(one, strands), closed(other, strands)
        self.assertEqual(marks(first), marks(second), (one, other))

    def test_letter_and_its_undoing(self):
        for word, strands in some_words(30, 0, 8, 7):
            for letter in (1, -1, strands - 1, 1 - strands):
                for place in (0, len(word) // 2, len(word)):
                    self.same(word[:place] + [letter, -letter] + word[place:], word, strands)
                made = closed(word + [letter, -letter], strands)
                self.assertEqual(Part(len(word) + 1, len(word) + 2).done(made), closed(word, strands))

    def test_three_letters(self):
        relations = [([1, 2, 1], [2, 1, 2]), ([-1, -2, -1], [-2, -1, -2]), ([1, 2, -1], [-2, 1, 2]),
                     ([-1, 2, 1], [2, 1, -2]), ([1, -2, -1], [-2, -1, 2]), ([-1, -2, 1], [2, -1, -2])]
        for word, strands in some_words(12, 0, 8, 8):
            for one, other in relations:
                for place in (0, len(word) // 2, len(word)):
                    self.same(word[:place] + one + word[place:], word[:place] + other + word[place:], 3)

    def test_a_slide_leads_from_one_to_the_other(self):
        for word, strands in some_words(30, 1, 8, 9):
            for one, other in (([1, 2, 1], [2, 1, 2]), ([-1, -2, -1], [-2, -1, -2]), ([1, 2, -1], [-2, 1, 2])):
                drawing = closed(one + word, 3)
                slides = [told for told in lessening(drawing) if told[0] == "slide" and set(told[1:4]) == {1, 2, 3}]
                made = [renamed_drawing(did(drawing, told), {1: 3, 3: 1}) for told in slides]
                self.assertIn(closed(other + word, 3), made)

    def test_turned_round_as_knots(self):
        for word, strands in some_words(30, 2, 8, 10):
            turned = word[1:] + word[:1]
            one, other = closed(word, strands), closed(turned, strands)
            self.assertEqual(levelled(one), levelled(other))
            self.assertEqual(marks(one)[3:], marks(other)[3:])

    def test_one_strand_more_is_a_curl(self):
        for word in list(words(2, 4)):
            for letter in (2, -2):
                made = closed(word + [letter], 3)
                self.assertEqual(Uncurl(len(word) + 1).done(made), closed(word, 2))
                self.assertEqual(marks(made), marks(closed(word, 2)))

    def test_marks_tell_some_apart(self):
        told = [marks(closed([1] * count, 2)) for count in range(1, 9)]
        for place, one in enumerate(told):
            self.assertNotIn(one, told[:place])
        self.assertNotEqual(levelled(closed([1] * 3, 2)), levelled(reflected(closed([1] * 3, 2))))


if __name__ == "__main__":
    unittest.main()
