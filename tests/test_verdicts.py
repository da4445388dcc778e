import unittest
from functools import cache
from itertools import product
from random import Random

from knotwise.braids import closed
from knotwise.brackets import bracket_by_all
from knotwise.colours import all_colourings
from knotwise.drawings import checked, names_of
from knotwise.errors import KnotError, NoLength, NoMark, TooMany
from knotwise.makings import beside, reflected, switched
from knotwise.marks import levelled, linking
from knotwise.polys import LOOP
from knotwise.search import walked
from knotwise.settled import settled
from knotwise.texts import read_text
from knotwise.verdicts import mark_by, verdict
from samples import (BENT, CHAIN, CURL, CURL_LEFT, EIGHT, FLAT, HALF_HOPF, HOPF, HOPF_LEFT, LAID, TREFOIL, TWISTED,
                     assert_own, begun_elsewhere, curls, renamed_drawing, small_drawings)
from settles import chance_row, did, least, reached, searched
from walks import some_row

WORDS = ["strings", "linking", "colours 3", "colours 5", "colours 7", "bracket"]
RING = [[]]
# A knot that no mark tells from a ring, and in which nothing fits that adds no crossing; it is not flat.
KISHINO = read_text("1o- 2u+ 1u- 2o+ 3u- 4o+ 3o- 4u+")
WRONG_LENGTHS = [-1, 5, -2, 8, 10 ** 60 - 1, 1 - 10 ** 60]


def crossings(drawing):
    return len(names_of(drawing))


@cache
def pool():
    return searched(8)


class MarkTest(unittest.TestCase):
    def marks(self, drawing):
        return [mark_by(word)(drawing) for word in WORDS]

    def test_written_out(self):
        self.assertEqual(self.marks(RING), [1, [[0]], 3, 5, 7, {2: -1, -2: -1}])
        self.assertEqual(self.marks(TREFOIL), [1, [[0]], 9, 5, 7, {-18: 1, -10: -1, -6: -1, -2: -1}])
        self.assertEqual(self.marks(EIGHT), [1, [[0]], 3, 25, 7, {10: -1, -10: -1}])
        self.assertEqual(self.marks(HOPF), [2, [[0, 1], [1, 0]], 3, 5, 7, {0: 1, -4: 1, -8: 1, -12: 1}])
        self.assertEqual(self.marks(CURL + [[]])[:5], [2, [[0, 0], [0, 0]], 9, 25, 49])
        self.assertEqual(mark_by("linking")(CHAIN), [[0, 1, 0], [1, 0, -1], [0, -1, 0]])
        self.assertEqual(mark_by("colours 7")(closed([1] * 7, 2)), 49)

    def test_each_is_what_its_word_says(self):
        for drawing in pool() + [[curls(12)], closed([1, -2] * 6, 3)]:
            self.assertEqual(mark_by("strings")(drawing), len(drawing))
            self.assertEqual(mark_by("linking")(drawing), linking(drawing))
            self.assertEqual(mark_by("bracket")(drawing), levelled(drawing))
        for drawing in FLAT + BENT:
            self.assertEqual(mark_by("colours 3")(drawing), len(all_colourings(drawing, 3)))
            self.assertEqual(mark_by("colours 5")(drawing), len(all_colourings(drawing, 5)))
        for drawing in (RING, CURL, TREFOIL, EIGHT, HOPF, LAID, TWISTED):
            self.assertEqual(mark_by("colours 7")(drawing), len(all_colourings(drawing, 7)))

    def test_another_word(self):
        for word in ("", "string", "Strings", "strings ", " linking", "colours", "colours 2", "colours 11", "colours 13",
                     "colours3", "colours  3", "colour 3", "levelled", "writhe", "brackets", "bracket\n", "3", "alike"):
            with self.assertRaises(NoMark):
                mark_by(word)

    def test_one_s_own(self):
        for word in WORDS:
            for drawing in (TREFOIL, CHAIN, [[], []]):
                assert_own(self, mark_by(word), [list(row) for row in drawing])

    def test_no_move_changes_them(self):
        for number, drawing in enumerate(FLAT + BENT + [KISHINO]):
            before = self.marks(drawing)
            row = some_row(drawing, did, 12, number + 40)
            for at_hand, told in row[3::4]:
                self.assertEqual(self.marks(did(at_hand, told)), before, told)


class AlikeTest(unittest.TestCase):
    def assert_alike(self, one, other, length):
        told = verdict(one, other, length)
        self.assertIs(type(told), tuple)
        self.assertEqual(told[0], "alike")
        self.assertEqual(len(told), 2)
        self.assertIs(type(told[1]), list)
        self.assertLessEqual(len(told[1]), 2 * length)
        most = max(crossings(one), crossings(other))
        at_hand = least(one)
        for move in told[1]:
            at_hand = least(did(at_hand, move))
            self.assertLessEqual(crossings(at_hand), most)
        self.assertEqual(at_hand, least(other))
        self.assertEqual(walked(one, told[1]), settled(other))
        return told[1]

    def test_one_drawing(self):
        for drawing in pool():
            for length in (0, 1):
                self.assert_alike(drawing, drawing, length)
        for drawing in FLAT:
            self.assertEqual(verdict(drawing, drawing, 0), ("alike", []))

    def test_other_names_and_beginnings(self):
        for rows in begun_elsewhere(EIGHT):
            self.assertEqual(verdict(EIGHT, renamed_drawing(rows, {1: 4, 4: 1, 2: 77}), 0), ("alike", []))

    def test_there_alone(self):
        self.assertEqual(verdict(CURL, RING, 1), ("alike", [("uncurl", 1)]))
        self.assertEqual(verdict(LAID, [[], []], 1), ("alike", [("part", 1, 2)]))
        self.assertEqual(len(self.assert_alike([curls(8)], [curls(4)], 4)), 4)

    def test_back_alone(self):
        self.assertEqual([told[0] for told in self.assert_alike(RING, CURL, 1)], ["curl"])
        self.assertEqual([told[0] for told in self.assert_alike([[], []], LAID, 1)], ["lay"])
        self.assertEqual(len(self.assert_alike([curls(4)], [curls(8)], 4)), 4)

    def test_there_and_back(self):
        self.assertEqual([told[0] for told in self.assert_alike(CURL, CURL_LEFT, 1)], ["uncurl", "curl"])
        left = [[(name, way, -hand) for name, way, hand in curls(4)]]
        words = [told[0] for told in self.assert_alike([curls(4)], left, 4)]
        self.assertEqual(words, ["uncurl"] * 4 + ["curl"] * 4)
        self.assertEqual(verdict([curls(4)], left, 3), ("open",))

    def test_slides(self):
        one = closed([1, 2, 1, 1], 3)
        other = closed([2, 1, 2, 1], 3)
        self.assertEqual([told[0] for told in self.assert_alike(one, other, 1)], ["slide"])
        self.assertEqual([told[0] for told in self.assert_alike(other, one, 1)], ["slide"])
        self.assertEqual(verdict(one, other, 0), ("open",))

    def test_just_where_both_come_to_one(self):
        kinds = set()
        near = [walked(drawing, chance_row(drawing, 3, 7, most=8)[0]) for drawing in pool()]
        for number, one in enumerate(pool()):
            for other in (near[number], pool()[number - 1], near[number - 2], CURL, [[], []]):
                for length in (0, 1, 2, 4)[number % 2::2]:
                    common = set(reached(one, length)) & set(reached(other, length))
                    if common:
                        self.assert_alike(one, other, length)
                    else:
                        self.assertNotEqual(verdict(one, other, length)[0], "alike")
                    kinds.add((bool(common), length))
        self.assertEqual(kinds, set(product((True, False), (0, 1, 2, 4))))

    def test_the_length_is_2_where_none_is_told(self):
        self.assertEqual(verdict([curls(2)], RING), ("alike", [("uncurl", 1), ("uncurl", 1)]))
        self.assertEqual(verdict([curls(3)], RING), ("open",))
        self.assertEqual(verdict([curls(3)], RING, 2), ("open",))
        self.assertEqual(verdict([curls(3)], RING, 3)[0], "alike")
        self.assertEqual(len(self.assert_alike([curls(4)], [[(1, 0, -1), (1, 1, -1), (2, 0, -1), (2, 1, -1)]], 4)), 6)


class ApartTest(unittest.TestCase):
    def test_by_each_mark(self):
        self.assertEqual(verdict(RING, [[], []]), ("apart", "strings", 1, 2))
        self.assertEqual(verdict(CHAIN, TREFOIL), ("apart", "strings", 3, 1))
        self.assertEqual(verdict(HOPF, HOPF_LEFT), ("apart", "linking", [[0, 1], [1, 0]], [[0, -1], [-1, 0]]))
        self.assertEqual(verdict(LAID, HALF_HOPF), ("apart", "linking", [[0, 0], [0, 0]], [[0, 1], [0, 0]]))
        self.assertEqual(verdict(TREFOIL, RING), ("apart", "colours 3", 9, 3))
        self.assertEqual(verdict(EIGHT, TREFOIL), ("apart", "colours 3", 3, 9))
        self.assertEqual(verdict(RING, EIGHT), ("apart", "colours 5", 5, 25))
        self.assertEqual(verdict(closed([1] * 5, 2), CURL), ("apart", "colours 5", 25, 5))
        self.assertEqual(verdict(closed([1] * 7, 2), RING), ("apart", "colours 7", 49, 7))
        self.assertEqual(verdict(RING, closed([1, 1, 1, 2, -1, 2], 3)), ("apart", "colours 7", 7, 49))
        self.assertEqual(verdict(TREFOIL, switched(TREFOIL)), ("apart", "bracket", levelled(TREFOIL),
                                                               {18: 1, 10: -1, 6: -1, 2: -1}))
        self.assertEqual(verdict(TWISTED, RING)[:2], ("apart", "bracket"))
        self.assertEqual(verdict(TWISTED, RING)[3], LOOP)

    def test_at_every_length(self):
        for length in range(5):
            self.assertEqual(verdict(TREFOIL, RING, length), ("apart", "colours 3", 9, 3))
            self.assertEqual(verdict(HOPF, LAID, length)[:2], ("apart", "linking"))

    def test_the_first_unlike_mark(self):
        found = set()
        for number, one in enumerate(pool() + [closed([1] * 7, 2), switched(TREFOIL)]):
            for other in (pool() + [RING, TREFOIL, EIGHT])[number % 2::3]:
                unlike = [word for word in WORDS if mark_by(word)(one) != mark_by(word)(other)]
                if unlike:
                    word = unlike[0]
                    told = ("apart", word, mark_by(word)(one), mark_by(word)(other))
                    self.assertEqual(verdict(one, other, 1), told)
                    found.add(word)
                else:
                    self.assertIn(verdict(one, other, 1)[0], ("alike", "open"))
        self.assertEqual(found, set(WORDS))

    def test_never_where_a_row_of_moves_leads(self):
        chance = Random(19)
        kinds = set()
        for number, drawing in enumerate((pool() + [KISHINO])[::2]):
            row = some_row(drawing, did, 14, number + 900)
            ends = [at_hand for at_hand, told in row[1:] if crossings(at_hand) <= 8]
            for other in chance.sample(ends, min(2, len(ends))):
                for length in (0, 2):
                    kinds.add(verdict(drawing, other, length)[0])
                    kinds.add(verdict(other, drawing, length)[0])
        self.assertEqual(kinds, {"alike", "open"})

    def test_never_where_two_moves_lead(self):
        for drawing in list(small_drawings())[::9]:
            for seed in range(3):
                other = did(*some_row(checked(drawing), did, 2, seed)[-1])
                self.assertNotEqual(verdict(drawing, other, 0)[0], "apart")


class OpenTest(unittest.TestCase):
    def test_within_no_length(self):
        for length in range(5):
            self.assertEqual(verdict(KISHINO, RING, length), ("open",))
            self.assertEqual(verdict(RING, KISHINO, length), ("open",))

    def test_within_the_told_length(self):
        self.assertEqual(verdict(CURL, RING, 0), ("open",))
        self.assertEqual(verdict([curls(8)], RING, 4), ("open",))
        self.assertEqual(verdict([curls(8)], [curls(1)], 3), ("open",))
        self.assertEqual(verdict(LAID, [[], []], 0), ("open",))

    def test_made_of_others(self):
        self.assertEqual(verdict(beside(TREFOIL, RING), beside(RING, TREFOIL), 4), ("open",))
        self.assertEqual(verdict(EIGHT, reflected(switched(EIGHT)))[0], "open")


class RefusedVerdictTest(unittest.TestCase):
    def assert_refused(self, error, one, other, length):
        with self.assertRaises(KnotError) as caught:
            verdict(one, other, length)
        self.assertIs(type(caught.exception), error)

    def test_no_length(self):
        for length in WRONG_LENGTHS:
            for one, other in ((RING, RING), (TREFOIL, [[], []]), ([curls(9)], RING), (RING, [curls(12)]),
                               ([curls(9)], [curls(9)])):
                self.assert_refused(NoLength, one, other, length)

    def test_too_many(self):
        for length in range(5):
            for one, other in (([curls(9)], RING), (RING, [curls(9)]), ([curls(9)], [curls(9)]),
                               ([[], curls(12)], RING), ([curls(8)], [curls(12)])):
                self.assert_refused(TooMany, one, other, length)
            self.assertEqual(verdict([curls(8)], [curls(8)], length), ("alike", []))
        with self.assertRaises(TooMany):
            verdict(RING, [curls(9)])

    def test_one_s_own(self):
        for one, other in ((CURL, CURL_LEFT), (HOPF, HOPF_LEFT), (TREFOIL, switched(TREFOIL)), (KISHINO, RING)):
            assert_own(self, verdict, [list(row) for row in one], [list(row) for row in other], 2)


class BothBracketsTest(unittest.TestCase):
    def test_the_mark_is_the_bracket_by_all_choices_too(self):
        for drawing in pool()[::3]:
            turns = sum(hand for row in drawing for name, way, hand in row) // 2
            by_all = {power - 3 * turns: number * (-1) ** abs(turns) for power, number in bracket_by_all(drawing).items()}
            self.assertEqual(mark_by("bracket")(drawing), by_all)


if __name__ == "__main__":
    unittest.main()
