import unittest
from functools import cache

from knotwise.drawings import checked, names_of
from knotwise.errors import KnotError, NameTaken, NoFit, NoLength, NoMove, NoName, NoSpot, TooMany
from knotwise.fits import lessening
from knotwise.search import back_row, reach, simplest, walked
from knotwise.texts import read_text
from samples import (BENT, CHAIN, CURL, CURL_LEFT, EIGHT, FLAT, HOPF, LAID, TREFOIL, TWISTED, assert_own,
                     begun_elsewhere, curls, renamed_drawing)
from settles import chance_row, did, least, reached, searched, tangled
from walks import all_curls, all_lays, fitting, triangle

# What a row does first, from two strings of which the first has a curl, up to where a move is refused.
AHEAD = [("curl", 30, (1, 2), 1, -1), ("lay", 8, 9, (1, 0), (2, 1), 0, 1), ("part", 1, 3), ("uncurl", 1)]
WRONG_LENGTHS = [-1, 5, -5, 6, 12, 10 ** 60 - 1, 1 - 10 ** 60, -4]


def crossings(drawing):
    return len(names_of(drawing))


@cache
def pool():
    return searched(12)


def walked_by_hand(drawing, row):
    at_hand = least(drawing)
    for told in row:
        at_hand = least(did(at_hand, told))
    return at_hand


class WalkedTest(unittest.TestCase):
    def test_the_empty_row(self):
        for drawing in FLAT + BENT + [[curls(12)], [curls(9)[3:]]]:
            for rows in begun_elsewhere(drawing)[:8]:
                self.assertEqual(walked(rows, []), least(drawing))
        self.assertEqual(walked([[(7, 1, 1), (7, 0, 1)]], []), CURL)

    def test_each_move(self):
        self.assertEqual(walked([[]], [("curl", 7, (0, 2), 1, -1)]), CURL_LEFT)
        self.assertEqual(walked([[(8, 0, 1), (8, 1, 1), (5, 0, -1), (5, 1, -1)]], [("uncurl", 2)]), CURL_LEFT)
        self.assertEqual(walked([[(8, 0, 1), (8, 1, 1), (5, 0, -1), (5, 1, -1)]], [("uncurl", 1)]), CURL)
        laid = [[(1, 0, -1), (2, 0, 1)], [(1, 1, -1), (2, 1, 1)]]
        for hand in (1, -1):
            self.assertEqual(walked([[], []], [("lay", 9, 5, (0, 2), (1, 2), 0, hand)]), laid)
        self.assertEqual(walked(renamed_drawing(LAID, {1: 5, 2: 4}), [("part", 2, 1)]), [[], []])
        start = [sum(triangle(1, (1, 1, 1), (7, 3, 5)), [])]
        made = [[(3, 0, 1), (7, 0, 1), (5, 0, 1), (7, 1, 1), (5, 1, 1), (3, 1, 1)]]
        self.assertEqual(walked(start, [("slide", 1, 2, 3, 1)]), least(made))

    def test_settled_between_the_moves(self):
        row = [("curl", 7, (0, 2), 1, -1), ("curl", 2, (1, 0), 0, 1), ("uncurl", 1)]
        self.assertEqual(walked([[]], row), CURL)
        self.assertEqual(walked([[]], row + [("uncurl", 1)]), [[]])
        for name in (2, 7):
            with self.assertRaises(NoName):
                walked([[]], row + [("uncurl", name)])

    def test_rows_by_chance(self):
        for number, drawing in enumerate(pool()):
            row, way = chance_row(drawing, 6, number)
            for length in (1, 3, 6):
                self.assertEqual(walked(drawing, row[:length]), way[length])
                self.assertEqual(walked(way[0], row[:length]), way[length])

    def test_names_and_beginnings_tell_nothing(self):
        row, way = chance_row(EIGHT, 5, 3)
        for rows in begun_elsewhere(EIGHT):
            self.assertEqual(walked(renamed_drawing(rows, {1: 40, 2: 3, 3: 2, 4: 999}), row), way[-1])

    def test_one_s_own(self):
        for row in ([], [("curl", 4, (1, 0), 0, 1)], [("curl", 4, (1, 0), 0, 1), ("uncurl", 1)]):
            assert_own(self, walked, [list(row) for row in TREFOIL], list(row))


class RefusedRowTest(unittest.TestCase):
    def assert_refused(self, error, drawing, row):
        for function in (walked, back_row):
            with self.assertRaises(KnotError) as caught:
                function(drawing, row)
            self.assertIs(type(caught.exception), error, row)

    def test_in_the_middle_of_a_row(self):
        drawing = CURL + [[]]
        at_hand = walked(drawing, AHEAD)
        self.assertEqual(names_of(at_hand), [1])
        wrong = [(NoName, ("uncurl", 2)), (NoName, ("part", 1, 30)), (NoName, ("slide", 1, 2, 1, 1)),
                 (NoFit, ("part", 1, 1)), (NoFit, ("slide", 1, 1, 1, 1)),
                 (NameTaken, ("curl", 1, (1, 0), 0, 1)), (NameTaken, ("lay", 2, 1, (1, 0), (1, 1), 0, 1)),
                 (NameTaken, ("lay", 2, 2, (1, 0), (1, 1), 0, 1)),
                 (NoSpot, ("curl", 2, (30, 0), 0, 1)), (NoSpot, ("curl", 2, (1, 2), 0, 1)),
                 (NoSpot, ("lay", 2, 3, (1, 0), (2, 0), 0, 1)), (NoSpot, ("lay", 2, 3, (0, 0), (1, 0), 0, 1)),
                 (NoMove, ("twist", 1)), (NoMove, ("", 1))]
        for error, told in wrong:
            for behind in ([], [("uncurl", 1)], [("twist", 1)], [("uncurl", 9)], [("curl", 1, (1, 0), 0, 1)]):
                self.assert_refused(error, drawing, AHEAD + [told] + behind)
                self.assert_refused(error, at_hand, [told] + behind)

    def test_what_does_not_fit(self):
        for told in (("uncurl", 2), ("part", 1, 2), ("slide", 1, 2, 3, 1)):
            self.assert_refused(NoFit, TREFOIL, [("curl", 4, (3, 1), 0, 1), ("uncurl", 4), told, ("twist", 1)])

    def test_too_many(self):
        spot = (1, 0)
        self.assert_refused(TooMany, [curls(11)], [("curl", 12, spot, 0, 1), ("curl", 1, (0, 9), 0, 1)])
        self.assert_refused(TooMany, [curls(10)], [("curl", 11, spot, 0, 1), ("lay", 12, 13, spot, spot, 0, 1)])
        self.assertEqual(walked([curls(11)], [("curl", 12, (1, 1), 0, 1), ("uncurl", 1)]), [curls(11)])

    def test_the_names_are_those_of_the_settled_drawing(self):
        drawing = [[(5, 0, 1), (5, 1, 1)]]
        self.assert_refused(NoName, drawing, [("uncurl", 5)])
        self.assert_refused(NameTaken, drawing, [("curl", 1, (1, 0), 0, 1)])
        self.assert_refused(NoSpot, drawing, [("curl", 2, (5, 0), 0, 1)])
        self.assertEqual(crossings(walked(drawing, [("curl", 5, (1, 0), 0, 1)])), 2)


class BackRowTest(unittest.TestCase):
    def assert_leads_back(self, drawing, row):
        told = back_row(drawing, row)
        self.assertIs(type(told), list)
        self.assertEqual(len(told), len(row))
        end = walked(drawing, row)
        self.assertEqual(walked_by_hand(end, told), least(drawing), row)
        self.assertEqual(walked(end, told), least(drawing), row)
        return end, told

    def test_the_empty_row(self):
        for drawing in FLAT + BENT:
            self.assertEqual(back_row(drawing, []), [])

    def test_each_move_there_and_back_and_there(self):
        for drawing in FLAT + BENT + [triangle(1, (1, 1, 1)), [sum(triangle(-1, (1, -1, 1)), [])]]:
            at_hand = least(drawing)
            for told in list(all_curls(at_hand, 50)) + list(all_lays(at_hand, 60, 51)) + fitting(at_hand):
                end, back = self.assert_leads_back(drawing, [told])
                # So that an uncurl and a part lead back to every way in which a curl and a lay can lie.
                self.assert_leads_back(end, back)

    def test_what_was_taken_out_gets_a_free_name(self):
        for name in range(1, 6):
            end, back = self.assert_leads_back([curls(5)], [("uncurl", name)])
            self.assertEqual(end, [curls(4)])
            self.assertNotIn(back[0][1], names_of(end))
        self.assert_leads_back([curls(12)], [("uncurl", 12)] + [("uncurl", 1)] * 11)

    def test_rows_of_several(self):
        for number, drawing in enumerate(pool()):
            row, way = chance_row(drawing, 7, number + 100)
            end, back = self.assert_leads_back(drawing, row)
            self.assertEqual(end, way[-1])
            self.assert_leads_back(end, back)

    def test_up_to_twelve_crossings(self):
        for seed in range(12):
            drawing = tangled(seed, most=12)
            row, way = chance_row(drawing, 4, seed + 500)
            self.assert_leads_back(drawing, row)
        full = did([curls(10)], ("lay", 12, 11, (3, 1), (7, 0), 1, -1))
        names = [told for told in fitting(least(full)) if told[0] == "part"]
        self.assertTrue(names)
        for told in names:
            self.assert_leads_back(full, [told])

    def test_names_and_beginnings_tell_nothing(self):
        row = [("curl", 40, (1, 0), 0, 1), ("lay", 41, 42, (2, 0), (42, 0), 1, 1)]
        for rows in begun_elsewhere(HOPF):
            self.assert_leads_back(renamed_drawing(rows, {1: 900, 2: 3}), row)

    def test_one_s_own(self):
        for row in ([], [("curl", 4, (1, 0), 0, 1)], [("curl", 4, (1, 0), 0, 1), ("uncurl", 1)]):
            assert_own(self, back_row, [list(row) for row in TREFOIL], list(row))


class ReachTest(unittest.TestCase):
    def assert_reach(self, drawing, length, told):
        self.assertIs(type(told), list)
        drawings = [found[0] for found in told]
        self.assertEqual(drawings, sorted(drawings))
        steps = reached(drawing, length)
        self.assertEqual({repr(made): len(row) for made, row in told}, steps)
        self.assertEqual(len(told), len(steps))
        for found in told:
            self.assertIs(type(found), tuple)
            self.assert_row(drawing, found)

    def assert_row(self, drawing, found):
        made, row = found
        at_hand = least(drawing)
        for told in row:
            self.assertIn(told, lessening(at_hand))
            at_hand = least(did(at_hand, told))
        self.assertEqual(at_hand, made)

    def test_by_the_document_s_words(self):
        for number, drawing in enumerate(pool()):
            for length in (number % 5, (number + 2) % 5):
                self.assert_reach(drawing, length, reach(drawing, length))

    def test_nothing_to_lessen(self):
        for drawing in (TREFOIL, EIGHT, HOPF, CHAIN, [[]], [[], []], [[], [], []]):
            for length in range(5):
                self.assertEqual(reach(drawing, length), [(least(drawing), [])])

    def test_length_nought(self):
        for drawing in pool():
            self.assertEqual(reach(drawing, 0), [(least(drawing), [])])

    def test_written_out(self):
        row = [(1, 0, -1), (1, 1, -1), (2, 0, 1), (2, 1, 1)]
        told = reach([[(name + 3, way, hand) for name, way, hand in row]], 1)
        self.assertEqual(told, [(CURL_LEFT, [("uncurl", 2)]), ([row], []), (CURL, [("uncurl", 1)])])
        self.assertEqual([found[0] for found in reach([row], 2)], [[[]], CURL_LEFT, [row], CURL])
        self.assertEqual([len(found[1]) for found in reach([row], 2)], [2, 1, 0, 1])
        self.assertEqual(reach(LAID, 1), [([[], []], [("part", 1, 2)]), (least(LAID), [])])

    def test_lengths(self):
        for length in range(5):
            told = reach([curls(5)], length)
            self.assertEqual([len(found[1]) for found in told], [length - count for count in range(length + 1)])
            self.assertEqual([crossings(found[0]) for found in told], list(range(5 - length, 6)))

    def test_closed(self):
        for drawing in pool()[::3]:
            for length in range(3):
                wider = [found[0] for found in reach(drawing, length + 1)]
                for made, row in reach(drawing, length):
                    self.assertIn(made, wider)
                    for told in fitting(made):
                        self.assertIn(least(did(made, told)), wider)

    def test_a_slide_ahead_of_what_it_sets_free(self):
        drawing = read_text("1o+ 2u+ 3o- 4u-\n1u+ 5u+ 3u- 4o- 5o+ 2o+")
        self.assertEqual(set(told[0] for told in lessening(drawing)), {"slide"})
        words = [[told[0] for told in row] for made, row in reach(drawing, 4) if made == [[], []]]
        self.assertEqual([words[0][0], sorted(words[0][1:])], ["slide", ["part", "part", "uncurl"]])
        self.assertNotIn([[], []], [made for made, row in reach(drawing, 3)])

    def test_names_and_beginnings_tell_nothing(self):
        for drawing in (tangled(3), tangled(8)):
            names = names_of(drawing)
            other = renamed_drawing(drawing, dict(zip(names, [name * 3 % 997 + 2 for name in names[::-1]])))
            other = [row[1:] + row[:1] for row in other]
            self.assertEqual([found[0] for found in reach(other, 3)], [found[0] for found in reach(drawing, 3)])

    def test_wrong_lengths(self):
        for length in WRONG_LENGTHS:
            for drawing in ([[]], TREFOIL, [curls(8)], [curls(9)], [curls(12)]):
                for function in (reach, simplest):
                    with self.assertRaises(NoLength):
                        function(drawing, length)

    def test_too_many_crossings(self):
        for length in range(5):
            for drawing in ([curls(9)], [[], curls(9)], [curls(12)], [curls(12)[::2], curls(12)[1::2]]):
                for function in (reach, simplest):
                    with self.assertRaises(TooMany):
                        function(drawing, length)
            self.assertEqual(len(reach([curls(8)], length)), length + 1)
            self.assertEqual(crossings(simplest([curls(8)], length)[0]), 8 - length)

    def test_one_s_own(self):
        for drawing in ([curls(3)], LAID, TREFOIL, [[]], tangled(8)):
            assert_own(self, reach, [list(row) for row in drawing], 2)
            assert_own(self, simplest, [list(row) for row in drawing], 2)


class SimplestTest(unittest.TestCase):
    def test_the_fewest_crossings_and_of_these_the_first(self):
        several = 0
        for number, drawing in enumerate(pool()):
            told = reach(drawing, number % 5)
            fewest = min(crossings(found[0]) for found in told)
            least_ones = [found for found in told if crossings(found[0]) == fewest]
            several += len(least_ones) > 1
            made, row = simplest(drawing, number % 5)
            self.assertEqual(made, least_ones[0][0])
            self.assertEqual(len(row), len(least_ones[0][1]))
            self.assertEqual(walked(drawing, row), made)
        self.assertGreater(several, 0)

    def test_written_out(self):
        row = [(4, 0, 1), (4, 1, 1), (5, 0, -1), (5, 1, -1)]
        self.assertEqual(simplest([row], 1), (CURL_LEFT, [("uncurl", 2)]))
        self.assertEqual(simplest([row], 0), (least([row]), []))
        self.assertEqual(simplest([row], 2)[0], [[]])
        self.assertEqual(simplest(TREFOIL, 4), (TREFOIL, []))
        self.assertEqual(simplest(LAID, 3), ([[], []], [("part", 1, 2)]))
        self.assertEqual(simplest(TWISTED, 4), (TWISTED, []))
        self.assertEqual(simplest(checked([[], curls(4)]), 4)[0], [[], []])


if __name__ == "__main__":
    unittest.main()
