import unittest
from itertools import permutations, product

from knotwise.drawings import checked, names_of, spots_of
from knotwise.errors import NameTaken, NoFit, NoMove, NoName, NoSpot, TooMany
from knotwise.moves import Curl, Lay, Move, Part, Slide, Uncurl, move_of
from knotwise.sides import flat, near
from plane import polygon_drawings
from samples import (BENT, CHAIN, CURL, EIGHT, FLAT, HALF_HOPF, HOPF, LAID, TREFOIL, TWISTED, assert_own,
                     begun_elsewhere, curls, renamed_drawing, small_drawings)
from walks import all_curls, all_lays, fits, fitting, laid, lays, put, some_row, triangle

FIVE = {
    Uncurl: ("uncurl", 4),
    Curl: ("curl", 4, (7, 1), 1, -1),
    Part: ("part", 5, 4),
    Lay: ("lay", 5, 4, (7, 1), (0, 2), 1, -1),
    Slide: ("slide", 6, 5, 4, -1),
}
BACKS = {"uncurl": Curl, "curl": Uncurl, "part": Lay, "lay": Part, "slide": Slide}


def did(drawing, told):
    return move_of(told).done(drawing)


def slides():
    """Drawings in each of which the slide 1, 2, 3 with the turn fits: (drawing, turn)."""
    for turn in (1, -1):
        for hands in product((1, -1), repeat=3):
            pairs = triangle(turn, hands)
            for one, two, three in permutations(pairs):
                yield checked([one + two + three]), turn
                yield checked([one + two, three]), turn
            yield checked(pairs), turn


def many_drawings():
    """Drawings of all kinds: flat and not, with each move fitting somewhere."""
    drawings = FLAT + BENT + list(small_drawings())[::5]
    drawings += [drawing for drawing, turn in list(slides())[::3]]
    return drawings + [checked(drawing) for polygons, drawing, where in polygon_drawings(40, most=8)]


def all_moves(drawing):
    return list(all_curls(drawing, 50)) + list(all_lays(drawing, 60, 51)) + fitting(drawing)


class ToldTest(unittest.TestCase):
    def test_made_by_its_class(self):
        for kind, told in FIVE.items():
            self.assertEqual(kind(*told[1:]).told(), told)

    def test_made_of_its_tuple(self):
        for kind, told in FIVE.items():
            move = move_of(told)
            self.assertIs(type(move), kind)
            self.assertEqual(move.told(), told)

    def test_of_no_other_of_the_five(self):
        for kind, told in FIVE.items():
            self.assertEqual(kind.__bases__, (Move,))
            for move in (move_of(told), kind(*told[1:])):
                self.assertIsInstance(move, Move)
                self.assertEqual([other for other in FIVE if isinstance(move, other)], [kind])

    def test_another_word(self):
        for word in ("", "Uncurl", "curls", "cur", "uncurl ", "parted", "lays", "slid", "move", "alike", "PART", "."):
            for told in ((word,), (word, 1), (word, 1, 2), (word, 1, 2, 3, 1), (word, 1, (1, 0), 0, 1)):
                with self.assertRaises(NoMove):
                    move_of(told)

    def test_a_move_stays_as_it_is(self):
        for drawing in (TREFOIL, LAID, CURL + [[]]):
            for told in all_moves(drawing):
                move = move_of(told)
                first = move.done(drawing)
                move.back(drawing)
                self.assertEqual(move.told(), told)
                self.assertEqual(move.done(drawing), first)


class CurlTest(unittest.TestCase):
    def test_into_a_string_without_passings(self):
        for hand in (1, -1):
            for first in (0, 1):
                self.assertEqual(Curl(8, (0, 2), first, hand).done([[]]), [[(8, 0, hand), (8, 1, hand)]])
                self.assertEqual(Curl(8, (1, 2), first, hand).done(CURL + [[]]), CURL + [[(8, 0, hand), (8, 1, hand)]])
                self.assertEqual(Curl(8, (2, 2), first, hand).done([[], [], []]),
                                 [[], [], [(8, 0, hand), (8, 1, hand)]])

    def test_behind_each_spot(self):
        self.assertEqual(Curl(4, (1, 0), 0, 1).done(CURL), [[(1, 0, 1), (4, 0, 1), (4, 1, 1), (1, 1, 1)]])
        self.assertEqual(Curl(4, (1, 0), 1, -1).done(CURL), [[(1, 0, 1), (4, 1, -1), (4, 0, -1), (1, 1, 1)]])
        self.assertEqual(Curl(4, (1, 1), 0, -1).done(CURL), [[(1, 0, 1), (1, 1, 1), (4, 0, -1), (4, 1, -1)]])
        self.assertEqual(Curl(4, (1, 1), 1, 1).done(CURL), [[(1, 0, 1), (1, 1, 1), (4, 1, 1), (4, 0, 1)]])
        self.assertEqual(Curl(9, (2, 0), 1, 1).done(HOPF), [HOPF[0], [(1, 1, 1), (2, 0, 1), (9, 1, 1), (9, 0, 1)]])

    def test_the_row_begins_with_its_least(self):
        self.assertEqual(Curl(1, (5, 1), 1, -1).done([[(5, 0, 1), (5, 1, 1)]]),
                         [[(1, 0, -1), (5, 0, 1), (5, 1, 1), (1, 1, -1)]])

    def test_by_the_words_of_the_document(self):
        for drawing in many_drawings():
            for told in all_curls(drawing, 50):
                rows = [list(row) for row in drawing]
                put(rows, told[2], [(50, told[3], told[4]), (50, 1 - told[3], told[4])])
                self.assertEqual(did(drawing, told), checked(rows))

    def test_the_twelfth_crossing(self):
        made = Curl(12, (11, 1), 0, 1).done([curls(11)])
        self.assertEqual(made, [curls(12)])


class UncurlTest(unittest.TestCase):
    def test_neighbours_either_first(self):
        for ways in ((0, 1), (1, 0)):
            for start in range(4):
                row = [(1, 0, 1), (7, ways[0], -1), (7, ways[1], -1), (2, 1, 1)]
                drawing = [row[start:] + row[:start], [(1, 1, 1), (2, 0, 1)]]
                self.assertEqual(Uncurl(7).done(drawing), HOPF)

    def test_at_the_rows_end_and_beginning(self):
        self.assertEqual(Uncurl(1).done([[(1, 0, 1), (2, 0, 1), (2, 1, 1), (1, 1, 1)]]), [[(2, 0, 1), (2, 1, 1)]])
        self.assertEqual(Uncurl(1).done([[(1, 1, 1), (2, 1, 1), (2, 0, 1), (1, 0, 1)]]), [[(2, 0, 1), (2, 1, 1)]])

    def test_a_row_of_two(self):
        for row in (CURL[0], CURL[0][::-1]):
            self.assertEqual(Uncurl(1).done([row]), [[]])
            self.assertEqual(Uncurl(1).done([[], row, []]), [[], [], []])

    def test_does_not_fit(self):
        for drawing, name in ((TREFOIL, 1), (TREFOIL, 3), (HOPF, 1), (HALF_HOPF, 1), (TWISTED, 2), (EIGHT, 4)):
            for rows in begun_elsewhere(drawing):
                with self.assertRaises(NoFit):
                    Uncurl(name).done(rows)
                with self.assertRaises(NoFit):
                    Uncurl(name).back(rows)


class PartTest(unittest.TestCase):
    def test_rows_of_two(self):
        for rows in begun_elsewhere(LAID):
            self.assertEqual(Part(1, 2).done(rows), [[], []])
            self.assertEqual(Part(2, 1).done(rows), [[], []])
        crossed = [[(1, 0, -1), (2, 0, 1)], [(2, 1, 1), (1, 1, -1)], []]
        self.assertEqual(Part(1, 2).done(crossed), [[], [], []])

    def test_at_the_rows_end_and_beginning_either_first(self):
        for over in ((1, 2), (2, 1)):
            for under in ((1, 2), (2, 1)):
                hands = {1: 1, 2: -1}
                one = [(5, 0, 1), (over[0], 0, hands[over[0]]), (over[1], 0, hands[over[1]]), (6, 0, 1)]
                other = [(5, 1, 1), (under[0], 1, hands[under[0]]), (under[1], 1, hands[under[1]]), (6, 1, 1)]
                for rows in begun_elsewhere([one, other]):
                    for names in ((1, 2), (2, 1)):
                        self.assertEqual(Part(*names).done(rows), [[(5, 0, 1), (6, 0, 1)], [(5, 1, 1), (6, 1, 1)]])

    def test_all_four_in_one_row(self):
        self.assertEqual(Part(1, 2).done([[(1, 0, 1), (2, 0, -1), (1, 1, 1), (2, 1, -1)]]), [[]])
        self.assertEqual(Part(1, 2).done([[(1, 0, 1), (2, 0, -1), (2, 1, -1), (1, 1, 1)]]), [[]])

    def test_does_not_fit(self):
        like_hands = [[(1, 0, 1), (2, 0, 1)], [(1, 1, 1), (2, 1, 1)]]
        over_apart = [[(1, 0, 1), (3, 0, 1), (2, 0, -1), (3, 1, 1)], [(1, 1, 1), (2, 1, -1)]]
        under_apart = [[(1, 0, 1), (2, 0, -1)], [(1, 1, 1), (3, 0, 1), (2, 1, -1), (3, 1, 1)]]
        over_and_under = [[(1, 0, 1), (2, 1, -1)], [(1, 1, 1), (2, 0, -1)]]
        for drawing in (like_hands, over_apart, under_apart, over_and_under, HOPF, TREFOIL, CHAIN, TWISTED):
            for names in ((1, 2), (2, 1)):
                with self.assertRaises(NoFit):
                    Part(*names).done(drawing)
                with self.assertRaises(NoFit):
                    Part(*names).back(drawing)


class LayTest(unittest.TestCase):
    def test_turned_and_hands(self):
        for hand in (1, -1):
            over = [(1, 0, 1), (4, 0, hand), (5, 0, -hand), (2, 1, 1)]
            self.assertEqual(Lay(4, 5, (1, 0), (1, 1), 0, hand).done(HOPF),
                             [over, [(1, 1, 1), (4, 1, hand), (5, 1, -hand), (2, 0, 1)]])
            self.assertEqual(Lay(4, 5, (1, 0), (1, 1), 1, hand).done(HOPF),
                             [over, [(1, 1, 1), (5, 1, -hand), (4, 1, hand), (2, 0, 1)]])

    def test_names_in_either_order(self):
        self.assertEqual(Lay(5, 4, (2, 1), (2, 0), 0, 1).done(HOPF),
                         [[(1, 0, 1), (2, 1, 1), (5, 0, 1), (4, 0, -1)], [(1, 1, 1), (2, 0, 1), (5, 1, 1), (4, 1, -1)]])
        self.assertEqual(Lay(2, 1, (5, 1), (5, 0), 1, 1).done([[(5, 0, 1), (5, 1, 1)]]),
                         [[(1, 0, -1), (5, 0, 1), (1, 1, -1), (2, 1, 1), (5, 1, 1), (2, 0, 1)]])

    def test_one_spot_for_both(self):
        self.assertEqual(Lay(4, 5, (1, 0), (1, 0), 0, 1).done(CURL),
                         [[(1, 0, 1), (4, 1, 1), (5, 1, -1), (4, 0, 1), (5, 0, -1), (1, 1, 1)]])
        self.assertEqual(Lay(4, 5, (1, 1), (1, 1), 1, -1).done(CURL),
                         [[(1, 0, 1), (1, 1, 1), (5, 1, 1), (4, 1, -1), (4, 0, -1), (5, 0, 1)]])

    def test_behind_the_second_new_over_passing(self):
        self.assertEqual(Lay(4, 5, (1, 0), (5, 0), 0, 1).done(CURL),
                         [[(1, 0, 1), (4, 0, 1), (5, 0, -1), (4, 1, 1), (5, 1, -1), (1, 1, 1)]])
        self.assertEqual(Lay(5, 4, (0, 2), (4, 0), 1, -1).done([[], []]),
                         [[(4, 0, 1), (4, 1, 1), (5, 1, -1), (5, 0, -1)], []])

    def test_not_between_the_new_over_passings(self):
        for drawing, over in ((CURL, (1, 0)), ([[]], (0, 2)), ([[], []], (1, 2)), (HOPF, (2, 0))):
            for turned in (0, 1):
                self.refused(NoSpot, drawing, 4, 5, over, (4, 0), turned, 1)

    def test_strings_without_passings(self):
        self.assertEqual(Lay(4, 5, (0, 2), (1, 2), 0, 1).done([[], []]),
                         [[(4, 0, 1), (5, 0, -1)], [(4, 1, 1), (5, 1, -1)]])
        self.assertEqual(Lay(4, 5, (2, 2), (0, 2), 1, -1).done([[], [], []]),
                         [[(4, 1, -1), (5, 1, 1)], [], [(4, 0, -1), (5, 0, 1)]])
        self.assertEqual(Lay(4, 5, (1, 2), (1, 0), 1, 1).done(CURL + [[]]),
                         [[(1, 0, 1), (5, 1, -1), (4, 1, 1), (1, 1, 1)], [(4, 0, 1), (5, 0, -1)]])

    def test_where_the_over_passings_went_is_no_such_string(self):
        for drawing, string in (([[]], 0), ([[], []], 1), (CURL + [[]], 1)):
            self.refused(NoSpot, drawing, 4, 5, (string, 2), (string, 2), 0, 1)

    def refused(self, error, drawing, *values):
        with self.assertRaises(error):
            Lay(*values).done(drawing)
        with self.assertRaises(error):
            Lay(*values).back(drawing)

    def test_the_twelfth_crossing(self):
        made = Lay(11, 12, (10, 1), (12, 0), 0, 1).done([curls(10)])
        self.assertEqual(made, [curls(10) + [(11, 0, 1), (12, 0, -1), (11, 1, 1), (12, 1, -1)]])

    def test_by_the_words_of_the_document(self):
        for drawing in many_drawings()[::2]:
            for told in all_lays(drawing, 60, 51):
                self.assertEqual(did(drawing, told), laid(drawing, *told[3:], names=(60, 51)))


class SlideTest(unittest.TestCase):
    def test_by_hand(self):
        drawing = [[(1, 0, 1), (2, 0, 1), (4, 0, 1)], [(1, 1, 1), (3, 0, 1), (5, 0, 1)],
                   [(2, 1, 1), (3, 1, 1), (4, 1, 1), (5, 1, 1)]]
        made = [[(1, 0, 1), (4, 0, 1), (2, 0, 1)], [(1, 1, 1), (5, 0, 1), (3, 0, 1)],
                [(2, 1, 1), (4, 1, 1), (5, 1, 1), (3, 1, 1)]]
        self.assertEqual(Slide(1, 2, 3, 1).done(drawing), made)
        self.assertEqual(Slide(1, 2, 3, -1).done(made), drawing)
        for move, rows in ((Slide(1, 2, 3, -1), drawing), (Slide(1, 2, 3, 1), made), (Slide(2, 1, 3, 1), drawing)):
            with self.assertRaises(NoFit):
                move.done(rows)

    def test_each_pair_changes_places(self):
        for turn in (1, -1):
            for hands in product((1, -1), repeat=3):
                pairs = triangle(turn, hands)
                made = [pair[::-1] for pair in pairs]
                for order in permutations(range(3)):
                    before = sum([pairs[one] for one in order], [])
                    after = sum([made[one] for one in order], [])
                    for rows in begun_elsewhere([before]):
                        self.assertEqual(Slide(1, 2, 3, turn).done(rows), checked([after]))
                    self.assertEqual(Slide(1, 2, 3, turn).done([before[:4], before[4:]]),
                                     checked([after[:4], after[4:]]))

    def test_pairs_the_wrong_way_about(self):
        for turn in (1, -1):
            for hands in product((1, -1), repeat=3):
                for wrong in list(product((0, 1), repeat=3))[1:]:
                    pairs = [pair[::-1] if turned else pair for pair, turned in zip(triangle(turn, hands), wrong)]
                    self.no_fit(Slide(1, 2, 3, turn), [sum(pairs, [])])
                    if wrong != (1, 1, 1):
                        self.no_fit(Slide(1, 2, 3, -turn), [sum(pairs, [])])

    def test_pairs_that_are_no_neighbours(self):
        for hands in product((1, -1), repeat=3):
            pairs = triangle(1, hands)
            between = [(9, 0, 1), (9, 1, 1)]
            for one in range(3):
                rows = [pair[:1] + between + pair[1:] if place == one else pair for place, pair in enumerate(pairs)]
                self.no_fit(Slide(1, 2, 3, 1), [sum(rows, [])])

    def test_other_names_about(self):
        pairs = triangle(1, (1, 1, 1))
        for names in permutations((1, 2, 3)):
            if names != (1, 2, 3):
                self.no_fit(Slide(*names, 1), [sum(pairs, [])])

    def test_rows_of_two_fit_both_ways(self):
        pairs = triangle(1, (1, -1, 1))
        self.assertEqual(Slide(1, 2, 3, 1).done(pairs), checked(pairs))
        self.assertEqual(Slide(1, 2, 3, -1).done(pairs), checked(pairs))

    def no_fit(self, move, drawing):
        with self.assertRaises(NoFit):
            move.done(drawing)
        with self.assertRaises(NoFit):
            move.back(drawing)


class RefusedTest(unittest.TestCase):
    def refused(self, error, drawing, *told):
        before = [list(row) for row in drawing]
        for asked in (move_of(told).done, move_of(told).back):
            with self.assertRaises(error):
                asked(drawing)
        self.assertEqual(drawing, before)

    def test_curl(self):
        full, almost = [curls(12)], [curls(11)]
        for spot in ((1, 0), (99, 0), (0, 2)):
            for name in (20, 1):
                self.refused(TooMany, full, "curl", name, spot, 0, 1)
            self.refused(NameTaken, almost, "curl", 1, spot, 0, 1)
        for spot in ((20, 0), (20, 1), (12, 0), (0, 2), (1, 2), (-1, 2), (0, 0)):
            self.refused(NoSpot, almost, "curl", 20, spot, 0, 1)
        self.refused(NoSpot, CURL + [[]], "curl", 20, (0, 2), 0, 1)
        self.refused(NoSpot, CURL + [[]], "curl", 20, (2, 2), 0, 1)
        self.refused(TooMany, [curls(12), []], "curl", 20, (1, 2), 0, 1)

    def test_lay(self):
        for count in (11, 12):
            for names in ((20, 21), (20, 20), (1, 20), (20, 2), (1, 1)):
                for over, under in (((1, 0), (1, 1)), ((99, 0), (1, 1)), ((1, 0), (99, 1)), ((0, 2), (0, 2))):
                    self.refused(TooMany, [curls(count)], "lay", *names, over, under, 0, 1)
        for names in ((20, 20), (1, 20), (20, 2), (1, 1), (3, 2)):
            for over, under in (((1, 0), (1, 1)), ((99, 0), (1, 1)), ((1, 0), (99, 1)), ((1, 0), (20, 0))):
                self.refused(NameTaken, [curls(10)], "lay", *names, over, under, 1, 1)
        for over, under in (((99, 0), (1, 1)), ((1, 0), (99, 1)), ((99, 0), (99, 1)), ((0, 2), (1, 0)),
                            ((1, 0), (0, 2)), ((1, 0), (20, 0)), ((1, 0), (20, 1)), ((1, 0), (21, 1)),
                            ((20, 0), (1, 0)), ((21, 0), (1, 0)), ((21, 0), (21, 0)), ((1, 3), (1, 0))):
            self.refused(NoSpot, [curls(10)], "lay", 20, 21, over, under, 0, -1)
        self.refused(NoSpot, CURL + [[]], "lay", 20, 21, (1, 2), (0, 2), 0, 1)
        self.refused(NoSpot, CURL + [[]], "lay", 20, 21, (2, 2), (1, 2), 0, 1)

    def test_uncurl(self):
        for name in (4, 0, -1, 1000):
            self.refused(NoName, TREFOIL, "uncurl", name)
        self.refused(NoName, [[]], "uncurl", 1)
        self.refused(NoFit, TREFOIL, "uncurl", 2)

    def test_part(self):
        for names in ((4, 5), (4, 4), (1, 4), (4, 1), (0, 1)):
            self.refused(NoName, TREFOIL, "part", *names)
        self.refused(NoName, [[]], "part", 1, 2)
        for names in ((1, 1), (2, 2), (1, 2)):
            self.refused(NoFit, TREFOIL, "part", *names)
        self.refused(NoFit, LAID, "part", 1, 1)
        self.refused(NoFit, CURL, "part", 1, 1)

    def test_slide(self):
        for names in ((1, 2, 4), (1, 4, 3), (4, 2, 3), (1, 1, 4), (4, 4, 1), (4, 4, 4)):
            for turn in (1, -1):
                self.refused(NoName, TREFOIL, "slide", *names, turn)
                self.refused(NoFit, TREFOIL, "slide", *[min(name, 3) for name in names], turn)
        for names in ((1, 1, 2), (1, 2, 1), (2, 1, 1), (1, 1, 1), (2, 2, 2)):
            for drawing in (CURL + [[(2, 0, 1), (2, 1, 1)]], LAID, HOPF, [[(1, 0, 1), (2, 0, 1)], [(1, 1, 1), (2, 1, 1)]]):
                for turn in (1, -1):
                    self.refused(NoFit, drawing, "slide", *names, turn)
        # A crossing whose one passing is alone in its row is next behind itself.
        for names in ((1, 1, 1), (1, 1, 2), (1, 2, 1)):
            self.refused(NoFit, HALF_HOPF + [[(2, 0, 1), (2, 1, 1)]], "slide", *names, 1)

    def test_just_what_fits_is_done(self):
        for drawing in many_drawings():
            names = names_of(drawing)[:4]
            told = [("uncurl", name) for name in names] + [("part", j, k) for j, k in permutations(names, 2)]
            told += [("slide", *three, turn) for three in permutations(names, 3) for turn in (1, -1)]
            for one in told:
                if fits(drawing, one):
                    did(drawing, one)
                else:
                    self.refused(NoFit, drawing, *one)


class BackTest(unittest.TestCase):
    def leads_back(self, drawing, told):
        move = move_of(told)
        made = move.done(drawing)
        back = move.back(drawing)
        self.assertIs(type(back), BACKS[told[0]])
        if told[0] == "part":
            self.assertIn(back.told()[5:], list(product((0, 1), (1, -1))))
        self.assertEqual(back.done(made), checked(drawing), told)
        self.assertEqual(move_of(back.told()).done(made), checked(drawing))
        self.assertEqual(made, checked(made))

    def test_each_move(self):
        for drawing in many_drawings():
            for told in all_moves(drawing):
                self.leads_back(drawing, told)

    def test_each_slide(self):
        for drawing, turn in slides():
            self.leads_back(drawing, ("slide", 1, 2, 3, turn))

    def test_wherever_the_rows_begin(self):
        for drawing in (TREFOIL, LAID, CURL + [[]], TWISTED, list(slides())[5][0], list(slides())[20][0],
                        [[(1, 0, 1), (2, 0, -1), (1, 1, 1), (2, 1, -1)], []],
                        [[(1, 0, 1), (2, 0, -1), (2, 1, -1), (1, 1, 1), (3, 0, 1), (3, 1, 1)]]):
            for rows in begun_elsewhere(drawing):
                for told in all_moves(drawing)[::3] + fitting(drawing):
                    self.assertEqual(did(rows, told), did(drawing, told))
                    self.leads_back(rows, told)

    def test_parts_of_all_rings_of_four(self):
        for hand in (1, -1):
            for ring in permutations([(1, 0, hand), (2, 0, -hand), (1, 1, hand), (2, 1, -hand)]):
                for more in ([], [(7, 0, 1)], [(7, 0, 1), (7, 1, 1)]):
                    for place in range(5):
                        rows = [list(ring[:place]) + more + list(ring[place:])]
                        rows += [[(7, 1, 1)]] if len(more) == 1 else []
                        for told in fitting(rows):
                            self.leads_back(rows, told)

    def test_rows_of_moves_there_and_back(self):
        for seed, drawing in enumerate(FLAT + BENT):
            row = some_row(drawing, did, 25, seed)
            at = did(*row[-1])
            for ahead, told in reversed(row):
                at = move_of(told).back(ahead).done(at)
                self.assertEqual(at, ahead)
            self.assertEqual(at, drawing)

    def test_all_five_words_come_in_rows(self):
        words = set()
        for seed, drawing in enumerate(FLAT + BENT):
            words.update(told[0] for ahead, told in some_row(drawing, did, 25, seed))
        self.assertEqual(words, set(BACKS))


class RenamedTest(unittest.TestCase):
    def test_names_and_spots(self):
        names = {4: 40, 7: 70, 0: 9}
        self.assertEqual(Uncurl(4).renamed(names).told(), ("uncurl", 40))
        self.assertEqual(Curl(4, (7, 1), 1, -1).renamed(names).told(), ("curl", 40, (70, 1), 1, -1))
        self.assertEqual(Part(5, 4).renamed(names).told(), ("part", 5, 40))
        self.assertEqual(Part(4, 5).renamed(names).told(), ("part", 40, 5))
        self.assertEqual(Lay(5, 4, (4, 0), (7, 1), 1, -1).renamed(names).told(),
                         ("lay", 5, 40, (40, 0), (70, 1), 1, -1))
        self.assertEqual(Slide(4, 5, 7, -1).renamed(names).told(), ("slide", 40, 5, 70, -1))
        self.assertEqual(Slide(5, 7, 4, 1).renamed(names).told(), ("slide", 5, 70, 40, 1))

    def test_names_that_are_no_keys_stay(self):
        for told in FIVE.values():
            self.assertEqual(move_of(told).renamed({}).told(), told)
            self.assertEqual(move_of(told).renamed({1: 2, 3: 4, 99: 7}).told(), told)

    def test_a_strings_number_is_no_name(self):
        names = {0: 10, 1: 11, 2: 12, 4: 14}
        self.assertEqual(Curl(4, (1, 2), 1, -1).renamed(names).told(), ("curl", 14, (1, 2), 1, -1))
        self.assertEqual(Curl(4, (1, 1), 1, -1).renamed(names).told(), ("curl", 14, (11, 1), 1, -1))
        self.assertEqual(Lay(1, 4, (0, 2), (1, 2), 1, 1).renamed(names).told(), ("lay", 11, 14, (0, 2), (1, 2), 1, 1))
        self.assertEqual(Lay(3, 4, (1, 0), (2, 2), 0, 1).renamed(names).told(), ("lay", 3, 14, (11, 0), (2, 2), 0, 1))
        self.assertEqual(Lay(3, 4, (2, 2), (2, 1), 0, 1).renamed(names).told(), ("lay", 3, 14, (2, 2), (12, 1), 0, 1))

    def test_ways_hands_and_turns_are_no_names(self):
        names = {-1: 50, 0: 51, 1: 52}
        self.assertEqual(Curl(4, (7, 1), 0, 1).renamed(names).told(), ("curl", 4, (7, 1), 0, 1))
        self.assertEqual(Lay(5, 4, (7, 0), (8, 1), 1, -1).renamed(names).told(), ("lay", 5, 4, (7, 0), (8, 1), 1, -1))
        self.assertEqual(Slide(5, 4, 6, -1).renamed(names).told(), ("slide", 5, 4, 6, -1))

    def test_all_at_once(self):
        self.assertEqual(Part(1, 2).renamed({1: 2, 2: 1}).told(), ("part", 2, 1))
        self.assertEqual(Slide(1, 2, 3, 1).renamed({1: 2, 2: 3, 3: 1}).told(), ("slide", 2, 3, 1, 1))
        self.assertEqual(Lay(1, 2, (3, 0), (2, 0), 0, 1).renamed({1: 2, 2: 3, 3: 1}).told(),
                         ("lay", 2, 3, (1, 0), (3, 0), 0, 1))

    def test_a_new_move_of_the_same_class(self):
        for kind, told in FIVE.items():
            names = {4: 1, 5: 2, 6: 3, 7: 8}
            move = move_of(told)
            renamed = move.renamed(names)
            self.assertIs(type(renamed), kind)
            self.assertIsNot(renamed, move)
            self.assertIsNot(move.renamed({}), move)
            self.assertEqual(move.told(), told)
            self.assertEqual(names, {4: 1, 5: 2, 6: 3, 7: 8})
            then = renamed.told()
            names.clear()
            names[4] = 300
            self.assertEqual(renamed.told(), then)
            self.assertNotEqual(then, told)

    def test_renamed_does_the_same_with_renamed_drawings(self):
        names = {1: 31, 2: 7, 3: 1, 4: 2, 50: 3, 60: 999, 51: 12}
        for drawing in (TREFOIL, EIGHT, LAID, CHAIN, CURL + [[]], list(slides())[3][0], list(slides())[60][0]):
            for told in all_moves(drawing):
                other = move_of(told).renamed(names).done(renamed_drawing(drawing, names))
                self.assertEqual(other, renamed_drawing(did(drawing, told), names))


class StillFlatTest(unittest.TestCase):
    def test_all_but_lays(self):
        drawings = [drawing for drawing in many_drawings() if flat(drawing)]
        drawings += [drawing for drawing, turn in slides() if flat(drawing)]
        words = set()
        for drawing in drawings:
            for told in list(all_curls(drawing, 50)) + fitting(drawing):
                self.assertIs(flat(did(drawing, told)), True, (drawing, told))
                words.add(told[0])
        self.assertEqual(words, {"curl", "uncurl", "part", "slide"})

    def test_near_lays(self):
        drawings = FLAT + [drawing for polygons, drawing, where in polygon_drawings(25, most=6, seed=8)]
        told = 0
        for drawing in drawings:
            for over, under, turned, hand in lays(drawing):
                if near(drawing, over, under, turned, hand):
                    told += 1
                    self.assertIs(flat(Lay(500, 501, over, under, turned, hand).done(drawing)), True)
        self.assertGreater(told, 500)

    def test_rows_of_such_moves(self):
        def done_flat(drawing, told):
            if told[0] == "lay" and told[4] in spots_of(drawing) and not near(drawing, *told[3:]):
                return drawing
            if told[0] == "lay" and told[4] not in spots_of(drawing):
                return drawing
            return did(drawing, told)

        for seed, drawing in enumerate(FLAT):
            for ahead, told in some_row(drawing, done_flat, 30, seed):
                self.assertIs(flat(ahead), True)


class OwnTest(unittest.TestCase):
    def test_told_is_new(self):
        for drawing in (TREFOIL, LAID, CURL + [[]], [[], []], list(slides())[7][0]):
            for told in all_moves(drawing):
                assert_own(self, move_of(told).done, [list(row) for row in drawing])
                assert_own(self, lambda rows: move_of(told).back(rows).told(), [list(row) for row in drawing])

    def test_a_row_that_stands_twice(self):
        empty = []
        made = Curl(1, (0, 2), 0, 1).done([empty, empty])
        self.assertEqual(made, [[(1, 0, 1), (1, 1, 1)], []])
        self.assertEqual(empty, [])


if __name__ == "__main__":
    unittest.main()
