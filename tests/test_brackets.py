import unittest
from itertools import combinations, permutations, product
from math import comb

from knotwise.brackets import bracket, bracket_by_all, opened, power, rings
from knotwise.drawings import checked, hand_of, names_of, spots_of
from knotwise.errors import NoName
from knotwise.moves import move_of
from knotwise.polys import LOOP, raised, shifted, times
from plane import polygon_drawings
from samples import (BENT, CHAIN, CURL, CURL_LEFT, EIGHT, FLAT, HALF_HOPF, HOPF, HOPF_LEFT, LAID, TREFOIL, TWISTED,
                     assert_own, begun_elsewhere, curls, renamed_drawing, small_drawings)
from walks import all_curls, all_lays, fitting, next_in, some_row, triangle


def choices(names):
    return [dict(zip(names, splits)) for splits in product((0, 1), repeat=len(names))]


def traced(drawing, choice):
    """(rings, plan) of the drawing split so, walked along its stretches by points 24 and 26."""
    stretch, joint = {}, {}
    for spot, after in next_in(drawing).items():
        stretch[spot + (1,)], stretch[after + (0,)] = after + (0,), spot + (1,)
    for name, split in choice.items():
        pairs = [((0, 0), (1, 1)), ((1, 0), (0, 1))] if split == 0 else [((0, 0), (1, 0)), ((0, 1), (1, 1))]
        for one, other in pairs:
            joint[(name,) + one], joint[(name,) + other] = (name,) + other, (name,) + one
    seen, plan = set(), []

    def walk(end):
        while end not in seen:
            seen.add(end)
            end = stretch[end]
            seen.add(end)
            if end not in joint:
                return end
            end = joint[end]
        return None

    for end in sorted(set(stretch) - set(joint)):
        if end not in seen:
            plan.append(tuple(sorted((end, walk(end)))))
    count = len([row for row in drawing if not row])
    for end in sorted(joint):
        if end not in seen:
            walk(end)
            count += 1
    return count, tuple(sorted(plan))


def opened_by_all(drawing, names):
    """Point 26 choice by choice, LOOP raised by the binomial numbers."""
    sums = {}
    for choice in choices(names):
        count, plan = traced(drawing, choice)
        base = sum(hand_of(drawing, name) * (1 if split == 0 else -1) for name, split in choice.items())
        poly = sums.setdefault(plan, {})
        for part in range(count + 1):
            at = base + 2 * count - 4 * part
            poly[at] = poly.get(at, 0) + (-1) ** count * comb(count, part)
    sums = {plan: {at: number for at, number in poly.items() if number} for plan, poly in sums.items()}
    return {plan: poly for plan, poly in sums.items() if poly}


def many_drawings(most=6):
    drawings = FLAT + BENT + list(small_drawings())[::3]
    drawings += [checked([sum(triangle(turn, hands), [])]) for turn in (1, -1) for hands in product((1, -1), repeat=3)]
    return drawings + [drawing for polygons, drawing, where in polygon_drawings(30, most=most)]


def did(drawing, told):
    return move_of(told).done(drawing)


class RingsTest(unittest.TestCase):
    def test_no_crossings(self):
        for count in (1, 2, 3):
            self.assertEqual(rings([[]] * count, {}), count)
            self.assertEqual(power([[]] * count, {}), 0)

    def test_both_hands(self):
        for drawing in (CURL, CURL_LEFT):
            self.assertEqual(rings(drawing, {1: 0}), 2)
            self.assertEqual(rings(drawing, {1: 1}), 1)
        self.assertEqual([power(CURL, {1: split}) for split in (0, 1)], [1, -1])
        self.assertEqual([power(CURL_LEFT, {1: split}) for split in (0, 1)], [-1, 1])

    def test_all_choices(self):
        told = [rings(TREFOIL, choice) for choice in choices([1, 2, 3])]
        self.assertEqual(told, [2, 1, 1, 2, 1, 2, 2, 3])
        self.assertEqual([power(TREFOIL, choice) for choice in choices([1, 2, 3])], [3, 1, 1, -1, 1, -1, -1, -3])
        self.assertEqual([rings(HOPF, choice) for choice in choices([1, 2])], [2, 1, 1, 2])
        self.assertEqual([rings(LAID, choice) for choice in choices([1, 2])], [2, 1, 1, 2])
        self.assertEqual([power(LAID, choice) for choice in choices([1, 2])], [0, 2, -2, 0])
        self.assertEqual([rings(HALF_HOPF, choice) for choice in choices([1])], [1, 1])
        self.assertEqual([rings(TWISTED, choice) for choice in choices([1, 2])], [1, 1, 1, 2])

    def test_strings_without_passings(self):
        for drawing in (CURL + [[]], [[]] + CURL):
            self.assertEqual([rings(drawing, {1: split}) for split in (0, 1)], [3, 2])
        self.assertEqual(rings([[], CURL[0], []], {1: 0}), 4)

    def test_names_in_any_order(self):
        self.assertEqual(rings(TREFOIL, {3: 0, 1: 0, 2: 0}), 2)
        self.assertEqual(power(EIGHT, {4: 0, 2: 1, 3: 1, 1: 0}), 0)
        self.assertEqual(power(EIGHT, {4: 0, 2: 1, 3: 0, 1: 1}), 4)

    def test_by_the_words_of_the_document(self):
        for drawing in many_drawings():
            for choice in choices(names_of(drawing)):
                self.assertEqual(rings(drawing, choice), traced(drawing, choice)[0])
                self.assertEqual(power(drawing, choice), sum(
                    hand_of(drawing, name) * (1 - 2 * split) for name, split in choice.items()))

    def test_handed_in_stays(self):
        for drawing in (TREFOIL, CURL + [[]], CHAIN):
            for choice in choices(names_of(drawing)):
                assert_own(self, rings, [list(row) for row in drawing], choice)
                assert_own(self, power, [list(row) for row in drawing], dict.fromkeys(names_of(drawing), 1))


class BracketTest(unittest.TestCase):
    def both(self, drawing):
        told = bracket(drawing)
        self.assertEqual(told, bracket_by_all(drawing), drawing)
        self.assertNotIn(0, told.values())
        return told

    def test_no_crossings(self):
        self.assertEqual(self.both([[]]), {2: -1, -2: -1})
        self.assertEqual(self.both([[], []]), {4: 1, 0: 2, -4: 1})
        self.assertEqual(self.both([[], [], []]), {6: -1, 2: -3, -2: -3, -6: -1})

    def test_worked_values(self):
        self.assertEqual(self.both(CURL), {5: 1, 1: 1})
        self.assertEqual(self.both(CURL_LEFT), {-5: 1, -1: 1})
        self.assertEqual(self.both(HOPF), {6: 1, 2: 1, -2: 1, -6: 1})
        self.assertEqual(self.both(HOPF_LEFT), {6: 1, 2: 1, -2: 1, -6: 1})
        self.assertEqual(self.both(LAID), {4: 1, 0: 2, -4: 1})
        self.assertEqual(self.both(TREFOIL), {-9: -1, -1: 1, 3: 1, 7: 1})
        self.assertEqual(self.both(EIGHT), {10: -1, -10: -1})
        self.assertEqual(self.both(HALF_HOPF), {-3: -1, -1: -1, 1: -1, 3: -1})
        self.assertEqual(self.both(TWISTED), {-6: 1, 0: -1, 2: -1, 4: -1})
        self.assertEqual(self.both(CURL + [[]]), {7: -1, 3: -2, -1: -1})

    def test_both_ways_alike(self):
        for drawing in many_drawings():
            self.assertEqual(self.both(drawing), opened_by_all(drawing, names_of(drawing)).get((), {}))

    def test_both_ways_alike_with_many_crossings(self):
        drawings = [drawing for polygons, drawing, where in polygon_drawings(80) if len(names_of(drawing)) >= 11]
        self.assertTrue(drawings)
        for drawing in drawings[:6] + [[curls(12)]]:
            self.both(drawing)
        self.assertEqual(bracket([curls(12)]), shifted(LOOP, 36, 1))

    def test_both_ways_alike_in_rows_of_moves(self):
        for seed, drawing in enumerate(BENT + FLAT[:3]):
            for ahead, told in some_row(drawing, did, 12, seed + 40, most=8):
                self.both(ahead)

    def test_beginnings_and_names_tell_nothing(self):
        for drawing in (TREFOIL, CHAIN, TWISTED, CURL + [[]]):
            for rows in begun_elsewhere(drawing):
                self.assertEqual(self.both(rows), bracket(drawing))
            for names in permutations((40, 2, 3, 1)):
                self.assertEqual(self.both(renamed_drawing(drawing, dict(zip((1, 2, 3, 4), names)))), bracket(drawing))

    def test_told_is_new(self):
        for drawing in (TREFOIL, CHAIN, [[]], [[], []], CURL + [[]], HALF_HOPF):
            assert_own(self, bracket, [list(row) for row in drawing])
            assert_own(self, bracket_by_all, [list(row) for row in drawing])
        self.assertEqual(LOOP, {2: -1, -2: -1})


class OpenedTest(unittest.TestCase):
    def test_at_none(self):
        self.assertEqual(opened([[]], []), {(): {2: -1, -2: -1}})
        self.assertEqual(opened([[], []], []), {(): {4: 1, 0: 2, -4: 1}})
        self.assertEqual(opened(CURL, []), {(((1, 0, 0), (1, 1, 1)), ((1, 0, 1), (1, 1, 0))): {0: 1}})
        self.assertEqual(opened([[], CURL[0]], []),
                         {(((1, 0, 0), (1, 1, 1)), ((1, 0, 1), (1, 1, 0))): {2: -1, -2: -1}})
        self.assertEqual(opened(HALF_HOPF, []), {(((1, 0, 0), (1, 0, 1)), ((1, 1, 0), (1, 1, 1))): {0: 1}})

    def test_two_ends_for_each_stretch(self):
        for drawing in (TREFOIL, CHAIN, HALF_HOPF):
            plan = list(opened(drawing, []))[0]
            ends = sorted(end for pair in plan for end in pair)
            self.assertEqual(ends, sorted(spot + (side,) for spot in spots_of(drawing) for side in (0, 1)))

    def test_at_some(self):
        self.assertEqual(opened(HOPF, [1]), {
            (((2, 0, 0), (2, 1, 1)), ((2, 0, 1), (2, 1, 0))): {1: 1},
            (((2, 0, 0), (2, 1, 0)), ((2, 0, 1), (2, 1, 1))): {-1: 1}})
        self.assertEqual(opened(HOPF_LEFT, [2]), {
            (((1, 0, 0), (1, 1, 1)), ((1, 0, 1), (1, 1, 0))): {-1: 1},
            (((1, 0, 0), (1, 1, 0)), ((1, 0, 1), (1, 1, 1))): {1: 1}})

    def test_a_ring_closes(self):
        drawing = [[(1, 0, 1), (1, 1, 1), (2, 0, 1), (2, 1, 1)]]
        self.assertEqual(opened(drawing, [1]), {(((2, 0, 0), (2, 1, 1)), ((2, 0, 1), (2, 1, 0))): {3: -1}})

    def test_at_all(self):
        for drawing in many_drawings():
            self.assertEqual(opened(drawing, names_of(drawing)), {(): bracket(drawing)})

    def test_a_plan_whose_sum_is_nought_is_left_out(self):
        drawing = [[(1, 0, 1), (2, 0, -1), (5, 0, 1)], [(1, 1, 1), (2, 1, -1), (5, 1, 1)]]
        plans = set(traced(drawing, choice)[1] for choice in choices([1, 2]))
        self.assertEqual(len(plans), 2)
        self.assertEqual(opened(drawing, [1, 2]), {(((5, 0, 0), (5, 0, 1)), ((5, 1, 0), (5, 1, 1))): {0: 1}})
        self.assertEqual(opened(drawing, [2, 1]), opened(drawing, [1, 2]))

    def test_any_names_in_any_order(self):
        for drawing in many_drawings(most=5):
            names = names_of(drawing)
            for count in range(min(len(names), 3) + 1):
                for some in combinations(names, count):
                    expected = opened_by_all(drawing, some)
                    for order in permutations(some):
                        self.assertEqual(opened(drawing, list(order)), expected)

    def test_most_names_of_many(self):
        drawings = [drawing for polygons, drawing, where in polygon_drawings(60) if len(names_of(drawing)) >= 9]
        for drawing in drawings[:4]:
            for some in (names_of(drawing)[:6], names_of(drawing)[::-2], names_of(drawing)[2:9]):
                self.assertEqual(opened(drawing, some), opened_by_all(drawing, some))

    def test_no_such_name(self):
        for drawing, names in ((TREFOIL, [4]), (TREFOIL, [1, 4]), (TREFOIL, [4, 1]), (TREFOIL, [1, 2, 3, 4]),
                               (TREFOIL, [0]), (TREFOIL, [-1]), ([[]], [1]), ([[], []], [0]), (CURL, [1000, 1])):
            with self.assertRaises(NoName):
                opened(drawing, names)

    def test_told_is_new(self):
        for drawing in (TREFOIL, CHAIN, LAID, [[]], CURL + [[]]):
            for count in range(len(names_of(drawing)) + 1):
                assert_own(self, opened, [list(row) for row in drawing], names_of(drawing)[:count])


class MovesTest(unittest.TestCase):
    def told_moves(self):
        for drawing in many_drawings():
            for told in list(all_curls(drawing, 50))[::3] + list(all_lays(drawing, 60, 51))[::7] + fitting(drawing):
                yield drawing, told, did(drawing, told)

    def test_what_each_does_to_the_bracket(self):
        words = set()
        for drawing, told, made in self.told_moves():
            words.add(told[0])
            if told[0] == "curl":
                self.assertEqual(bracket(made), shifted(bracket(drawing), 3 * told[4], -1))
            elif told[0] == "uncurl":
                self.assertEqual(bracket(drawing), shifted(bracket(made), 3 * hand_of(drawing, told[1]), -1))
            else:
                self.assertEqual(bracket(made), bracket(drawing), (drawing, told))
        self.assertEqual(len(words), 5)

    def test_in_rows_of_moves(self):
        for seed, drawing in enumerate(FLAT + BENT):
            factor, by = 1, 0
            row = some_row(drawing, did, 20, seed + 70, most=10)
            for ahead, told in row:
                self.assertEqual(bracket(ahead), shifted(bracket(drawing), by, factor))
                if told[0] in ("curl", "uncurl"):
                    factor = -factor
                    by += 3 * (told[4] if told[0] == "curl" else -hand_of(ahead, told[1]))

    def test_what_is_left_where_a_move_was(self):
        for drawing in (TREFOIL, CHAIN, HALF_HOPF, TWISTED, CURL + [[]], [[], []]):
            whole = opened(drawing, [])
            plan = list(whole)[0]
            for told in all_curls(drawing, 50):
                self.assertEqual(opened(did(drawing, told), [50]), {plan: shifted(whole[plan], 3 * told[4], -1)})
            for told in all_lays(drawing, 60, 51):
                self.assertEqual(opened(did(drawing, told), [51, 60]), whole)

    def test_what_is_left_where_a_slide_was(self):
        for turn in (1, -1):
            for hands in product((1, -1), repeat=3):
                one, two, three = triangle(turn, hands)
                drawing = [one + [(7, 0, 1)], two + [(7, 1, 1), (8, 0, 1)], three + [(8, 1, 1)]]
                made = did(drawing, ("slide", 1, 2, 3, turn))
                self.assertNotEqual(made, checked(drawing))
                self.assertEqual(opened(made, [1, 2, 3]), opened(drawing, [1, 2, 3]))

    def test_a_string_alone_is_times_loop(self):
        for drawing in (TREFOIL, CURL, HALF_HOPF):
            self.assertEqual(bracket(drawing + [[]]), times(LOOP, bracket(drawing)))
            self.assertEqual(bracket([[]] + drawing), times(LOOP, bracket(drawing)))
        self.assertEqual(bracket([[], [], []]), raised(LOOP, 3))


if __name__ == "__main__":
    unittest.main()
