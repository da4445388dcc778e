import unittest

from knotwise.drawings import hand_of, names_of, next_of, spots_of, string_of
from knotwise.errors import NoSpot
from knotwise.groups import grouped, together
from knotwise.sides import flat, near, pieces, regions, sides_of
from plane import beside, polygon_drawings, winding
from samples import (BENT, CHAIN, CURL, CURL_LEFT, EIGHT, FLAT, HALF_HOPF, HOPF, HOPF_LEFT, LAID, TREFOIL, TWISTED,
                     assert_as_flat, assert_own, begun_elsewhere, small_drawings)
from walks import laid, lays

LEFT, RIGHT = 0, 1
COMES, LEAVES = 0, 1
OVER, UNDER = 0, 1
# Point 12, word by word: of both sides of a corner the side, whether the stretch comes or leaves, and the way.
CORNERS = {
    1: [((RIGHT, COMES, OVER), (LEFT, COMES, UNDER)), ((RIGHT, COMES, UNDER), (RIGHT, LEAVES, OVER)),
        ((LEFT, LEAVES, OVER), (RIGHT, LEAVES, UNDER)), ((LEFT, LEAVES, UNDER), (LEFT, COMES, OVER))],
    -1: [((RIGHT, COMES, UNDER), (LEFT, COMES, OVER)), ((RIGHT, COMES, OVER), (RIGHT, LEAVES, UNDER)),
         ((LEFT, LEAVES, UNDER), (RIGHT, LEAVES, OVER)), ((LEFT, LEAVES, OVER), (LEFT, COMES, UNDER))],
}


def meeting_sides(drawing):
    """For each side those that it meets at corners, by point 12's table."""
    coming = {after: spot for spot, after in next_of(drawing).items()}
    meets = {spot + (side,): set() for spot in spots_of(drawing) for side in (LEFT, RIGHT)}
    for name in names_of(drawing):
        for corner in CORNERS[hand_of(drawing, name)]:
            one, other = [(coming[(name, way)] if end == COMES else (name, way)) + (side,) for side, end, way in corner]
            meets[one].add(other)
            meets[other].add(one)
    return meets


def walked_regions(drawing):
    """The regions, walked from side to side."""
    meets = meeting_sides(drawing)
    found = set()
    for side in meets:
        region, waiting = set(), [side]
        while waiting:
            at = waiting.pop()
            if at not in region:
                region.add(at)
                waiting.extend(meets[at])
        found.add(tuple(sorted(region)))
    return sorted(list(region) for region in found)


class SidesTest(unittest.TestCase):
    def test_two_for_each_stretch(self):
        self.assertEqual(sides_of(HOPF), [(1, 0, 0), (1, 0, 1), (1, 1, 0), (1, 1, 1),
                                          (2, 0, 0), (2, 0, 1), (2, 1, 0), (2, 1, 1)])

    def test_strings_without_passings(self):
        self.assertEqual(sides_of([[], []]), [(0, 2, 0), (0, 2, 1), (1, 2, 0), (1, 2, 1)])
        self.assertEqual(sides_of([[(1, 0, 1), (1, 1, 1)], []]),
                         [(1, 0, 0), (1, 0, 1), (1, 1, 0), (1, 1, 1), (1, 2, 0), (1, 2, 1)])
        self.assertEqual(sides_of([[], [(1, 0, 1), (1, 1, 1)]]),
                         [(0, 2, 0), (0, 2, 1), (1, 0, 0), (1, 0, 1), (1, 1, 0), (1, 1, 1)])

    def test_sorted(self):
        drawing = [[(10, 0, 1), (9, 1, 1)], [(10, 1, 1), (9, 0, 1)]]
        self.assertEqual(sides_of(drawing), sorted(sides_of(drawing)))
        self.assertEqual(sides_of(drawing)[0], (9, 0, 0))


class RegionsTest(unittest.TestCase):
    def test_three_crossings(self):
        self.assertEqual(regions(TREFOIL), [
            [(1, 0, 0), (1, 1, 1)],
            [(1, 0, 1), (2, 0, 1), (3, 0, 1)],
            [(1, 1, 0), (2, 1, 0), (3, 1, 0)],
            [(2, 0, 0), (2, 1, 1)],
            [(3, 0, 0), (3, 1, 1)],
        ])

    def test_a_string_with_itself(self):
        self.assertEqual(regions(CURL), [[(1, 0, 0), (1, 1, 1)], [(1, 0, 1)], [(1, 1, 0)]])
        self.assertEqual(regions(CURL_LEFT), [[(1, 0, 0)], [(1, 0, 1), (1, 1, 0)], [(1, 1, 1)]])

    def test_two_strings(self):
        self.assertEqual(regions(HOPF), [
            [(1, 0, 0), (1, 1, 1)], [(1, 0, 1), (2, 0, 1)], [(1, 1, 0), (2, 1, 0)], [(2, 0, 0), (2, 1, 1)]])
        self.assertEqual(regions(HOPF_LEFT), [
            [(1, 0, 0), (2, 0, 0)], [(1, 0, 1), (1, 1, 0)], [(1, 1, 1), (2, 1, 1)], [(2, 0, 1), (2, 1, 0)]])
        self.assertEqual(regions(LAID), [
            [(1, 0, 0), (1, 1, 1)], [(1, 0, 1), (2, 1, 1)], [(1, 1, 0), (2, 0, 0)], [(2, 0, 1), (2, 1, 0)]])

    def test_strings_without_passings(self):
        self.assertEqual(regions([[], []]), [[(0, 2, 0)], [(0, 2, 1)], [(1, 2, 0)], [(1, 2, 1)]])
        self.assertEqual(regions(CURL + [[]]), [
            [(1, 0, 0), (1, 1, 1)], [(1, 0, 1)], [(1, 1, 0)], [(1, 2, 0)], [(1, 2, 1)]])

    def test_not_flat(self):
        self.assertEqual(regions(TWISTED), [
            [(1, 0, 0), (1, 0, 1), (1, 1, 0), (1, 1, 1), (2, 0, 1), (2, 1, 0)], [(2, 0, 0), (2, 1, 1)]])
        self.assertEqual(regions(HALF_HOPF), [[(1, 0, 0), (1, 0, 1), (1, 1, 0), (1, 1, 1)]])

    def test_by_the_table_of_the_document(self):
        for drawing in FLAT + BENT:
            self.assertEqual(regions(drawing), walked_regions(drawing))
        for drawing in small_drawings():
            self.assertEqual(regions(drawing), walked_regions(drawing))

    def test_each_side_in_just_one(self):
        for drawing in FLAT + BENT:
            self.assertEqual(sorted(side for region in regions(drawing) for side in region), sides_of(drawing))

    def test_on_the_plane_one_region_is_one_place(self):
        for polygons, drawing, where in polygon_drawings(150):
            for region in regions(drawing):
                rounds = set()
                for name, way, side in region:
                    if way == 2:
                        continue
                    string, point, going = where[(name, way)]
                    piece = [one for one in pieces(drawing) if string in one][0]
                    place = beside(point, going, side)
                    rounds.add(tuple(winding(polygons[other], place) for other in piece))
                self.assertLessEqual(len(rounds), 1)


class PiecesTest(unittest.TestCase):
    def test_pieces(self):
        self.assertEqual(pieces(TREFOIL), [[0]])
        self.assertEqual(pieces(HOPF), [[0, 1]])
        self.assertEqual(pieces(HALF_HOPF), [[0, 1]])
        self.assertEqual(pieces(CHAIN), [[0, 1, 2]])
        self.assertEqual(pieces([[], [], []]), [[0], [1], [2]])

    def test_with_a_third(self):
        for order in ((0, 1, 2), (1, 0, 2), (0, 2, 1), (2, 1, 0)):
            self.assertEqual(pieces([CHAIN[string] for string in order]), [[0, 1, 2]])

    def test_apart_from_a_third(self):
        self.assertEqual(pieces(HOPF + [[]]), [[0, 1], [2]])
        self.assertEqual(pieces([HOPF[0], [], HOPF[1]]), [[0, 2], [1]])
        self.assertEqual(pieces([[], HOPF[1], HOPF[0]]), [[0], [1, 2]])
        self.assertEqual(pieces([HOPF[0], [(7, 0, 1), (7, 1, 1)], HOPF[1]]), [[0, 2], [1]])

    def test_crossing_itself_alone(self):
        self.assertEqual(pieces([[(1, 0, 1), (1, 1, 1)], [(2, 0, 1), (2, 1, 1)]]), [[0], [1]])


class FlatTest(unittest.TestCase):
    def test_flat(self):
        for drawing in FLAT:
            self.assertIs(flat(drawing), True, drawing)

    def test_not_flat(self):
        for drawing in BENT + [[EIGHT[0][:-1], EIGHT[0][-1:]]]:
            self.assertIs(flat(drawing), False, drawing)

    def test_hands_matter(self):
        turned = [[(name, way, -hand if name == 3 else hand) for name, way, hand in TREFOIL[0]]]
        self.assertIs(flat(turned), False)

    def test_what_is_drawn_on_the_plane_is_flat(self):
        for polygons, drawing, where in polygon_drawings(150):
            self.assertIs(flat(drawing), True, drawing)

    def test_else_fewer_by_an_even_number(self):
        seen = set()
        for drawing in small_drawings():
            lack = len(names_of(drawing)) + 2 * len(pieces(drawing)) - len(regions(drawing))
            self.assertGreaterEqual(lack, 0)
            self.assertEqual(lack % 2, 0)
            self.assertEqual(flat(drawing), lack == 0)
            seen.add(lack)
        self.assertIn(2, seen)

    def test_what_holds_of_every_flat_drawing(self):
        drawings = list(small_drawings()) + [drawing for polygons, drawing, where in polygon_drawings(150)]
        drawings = [drawing for drawing in drawings if flat(drawing)]
        self.assertGreater(len(drawings), 200)
        for drawing in drawings:
            assert_as_flat(self, drawing)


class NearTest(unittest.TestCase):
    def test_each_hand_and_turn(self):
        # The left side of (1, 0) is in one region with the right one of (1, 1), its right one with that of (2, 0).
        self.assertIs(near(TREFOIL, (1, 0), (1, 1), 0, -1), True)
        self.assertIs(near(TREFOIL, (1, 0), (1, 1), 0, 1), False)
        self.assertIs(near(TREFOIL, (1, 0), (1, 1), 1, 1), False)
        self.assertIs(near(TREFOIL, (1, 0), (1, 1), 1, -1), False)
        self.assertIs(near(TREFOIL, (1, 1), (1, 0), 0, 1), True)
        self.assertIs(near(TREFOIL, (1, 1), (1, 0), 1, 1), False)
        self.assertIs(near(TREFOIL, (1, 0), (2, 0), 1, -1), True)
        self.assertIs(near(TREFOIL, (1, 0), (2, 0), 0, -1), False)
        self.assertIs(near(TREFOIL, (1, 1), (2, 1), 1, 1), True)
        self.assertIs(near(TREFOIL, (1, 1), (2, 1), 0, 1), False)

    def test_one_spot_twice(self):
        for hand in (1, -1):
            self.assertIs(near(TREFOIL, (2, 1), (2, 1), 1, hand), True)
            self.assertIs(near(TREFOIL, (2, 1), (2, 1), 0, hand), False)
            self.assertIs(near([[]], (0, 2), (0, 2), 1, hand), True)
            self.assertIs(near([[]], (0, 2), (0, 2), 0, hand), False)

    def test_a_stretch_with_one_region_on_both_sides(self):
        self.assertIs(near(HALF_HOPF, (1, 0), (1, 0), 0, 1), True)
        self.assertIs(near(TWISTED, (1, 1), (1, 1), 0, -1), True)

    def test_two_strings_of_one_piece(self):
        self.assertIs(near(HOPF, (1, 0), (1, 1), 0, -1), True)
        self.assertIs(near(HOPF, (1, 0), (1, 1), 0, 1), False)
        self.assertIs(near(CHAIN, (1, 0), (3, 1), 0, 1),
                      together(walked_regions(CHAIN), (1, 0, 1), (3, 1, 0)))

    def test_strings_that_hang_together_by_a_third(self):
        told = [near(CHAIN, over, under, turned, hand) for over, under, turned, hand in lays(CHAIN)
                if string_of(CHAIN, over) == 0 and string_of(CHAIN, under) == 2]
        self.assertIn(True, told)
        self.assertIn(False, told)

    def test_different_pieces(self):
        for drawing, over, under in (([[], []], (0, 2), (1, 2)), (CURL + [[]], (1, 0), (1, 2)),
                                     (CURL + [[]], (1, 2), (1, 1)),
                                     (HALF_HOPF + [[]], (2, 2), (1, 1))):
            for turned in (0, 1):
                for hand in (1, -1):
                    self.assertIs(near(drawing, over, under, turned, hand), True)

    def test_no_such_spot(self):
        curl = CURL + [[]]
        for spot in ((0, 2), (2, 2), (-1, 2), (2, 0), (0, 1), (1, 3)):
            for over, under in ((spot, (1, 0)), ((1, 2), spot), (spot, spot)):
                with self.assertRaises(NoSpot):
                    near(curl, over, under, 0, 1)

    def test_by_the_words_of_the_document(self):
        for drawing in FLAT + BENT:
            told = walked_regions(drawing)
            for over, under, turned, hand in lays(drawing):
                over_side = LEFT if (hand, turned) in ((1, 1), (-1, 0)) else RIGHT
                under_side = LEFT if hand == 1 else RIGHT
                joined = together(pieces(drawing), string_of(drawing, over), string_of(drawing, under))
                expected = not joined or together(told, over + (over_side,), under + (under_side,))
                self.assertIs(near(drawing, over, under, turned, hand), expected)

    def test_a_near_lay_keeps_it_flat_and_no_other(self):
        drawings = FLAT + [drawing for polygons, drawing, where in polygon_drawings(25, most=5)]
        for drawing in drawings:
            for over, under, turned, hand in lays(drawing):
                self.assertEqual(flat(laid(drawing, over, under, turned, hand)),
                                 near(drawing, over, under, turned, hand))


class BeginningsTest(unittest.TestCase):
    def test_beginnings_tell_nothing(self):
        for drawing in (TREFOIL, HOPF, LAID, CHAIN, TWISTED, CURL + [[]], HALF_HOPF):
            for rows in begun_elsewhere(drawing):
                for function in (sides_of, regions, pieces, flat):
                    self.assertEqual(function(rows), function(drawing))
            some = list(lays(drawing))[::7]
            for rows in begun_elsewhere(drawing)[::5]:
                for lay in some:
                    self.assertEqual(near(rows, *lay), near(drawing, *lay))

    def test_told_is_new(self):
        for drawing in (TREFOIL, CHAIN, TWISTED, HOPF + [[]], [[], []]):
            for function in (sides_of, regions, pieces, flat):
                assert_own(self, function, [list(row) for row in drawing])
        assert_own(self, near, [list(row) for row in TREFOIL], (1, 0), (1, 1), 0, 1)


class GroupsTest(unittest.TestCase):
    def test_grouped(self):
        self.assertEqual(grouped([], []), [])
        self.assertEqual(grouped([3, 1, 2], []), [[1], [2], [3]])
        self.assertEqual(grouped([1, 2, 3, 4], [(4, 1), (2, 2), (4, 3)]), [[1, 3, 4], [2]])
        self.assertEqual(grouped([1, 2, 3, 4], [(1, 2), (4, 3), (2, 3), (1, 4)]), [[1, 2, 3, 4]])

    def test_together(self):
        self.assertIs(together([[1, 3], [2]], 1, 3), True)
        self.assertIs(together([[1, 3], [2]], 1, 2), False)
        self.assertIs(together([[1, 3], [2]], 2, 2), True)


if __name__ == "__main__":
    unittest.main()
