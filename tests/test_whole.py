import copy
import os
import subprocess
import sys
import unittest

from knotwise import errors, polys
from knotwise.brackets import bracket, bracket_by_all
from knotwise.desk import Desk
from knotwise.sides import flat
from knotwise.verdicts import verdict
from samples import assert_own
from settles import searched
from test_interface import FUNCTIONS
from whole import all_told, calls

HERE = os.path.dirname(os.path.abspath(__file__))
TRUTHS = ["flat", "near", "fits_colours"]


def numbers_within(value):
    """All that is no text, list, tuple or dict in a value."""
    if isinstance(value, dict):
        value = list(value) + list(value.values())
    if isinstance(value, (list, tuple)):
        return [number for part in value for number in numbers_within(part)]
    return [] if isinstance(value, str) else [value]


class WholeTest(unittest.TestCase):
    def test_all_of_the_interface_is_called(self):
        asked = set(function.__name__ for function, handed in calls()) | {"mark_by", "move_of"}
        for forms in FUNCTIONS.values():
            for form in forms:
                self.assertIn(form.split("(")[0], asked)

    def test_whole_numbers_alone(self):
        for function, handed in calls():
            kind = bool if function.__name__ in TRUTHS else int
            for number in numbers_within(function(*handed)):
                self.assertIs(type(number), kind, function.__name__)

    def test_what_is_told_is_the_asker_s_own(self):
        for function, handed in calls():
            # LOOP is handed in as it is; nobody changes it, so a copy stands for it where what was handed in is changed.
            assert_own(self, function, *copy.deepcopy(handed))
        self.assertEqual(polys.LOOP, {2: -1, -2: -1})

    def test_one_list_handed_in_twice(self):
        for drawing in searched(2):
            row = [list(string) for string in drawing]
            before = copy.deepcopy(row)
            self.assertEqual(verdict(row, row, 1), ("alike", []))
            self.assertEqual(row, before)
        polynomial = {1: 2}
        self.assertEqual(polys.times(polynomial, polynomial), {2: 4})
        self.assertEqual(polys.added(polynomial, polynomial), {1: 4})
        self.assertEqual(polynomial, {1: 2})

    def test_told_again_in_any_order(self):
        first = all_told()
        backwards = [repr((function.__name__, function(*handed))) for function, handed in reversed(calls())]
        self.assertEqual(backwards[::-1], first)

    def test_nothing_hangs_on_chance_or_where_it_runs(self):
        printed = []
        for seed, place in (("1", HERE), ("2", os.path.dirname(HERE)), ("77", "/")):
            environment = dict(os.environ, PYTHONHASHSEED=seed, PYTHONPATH=os.path.dirname(HERE),
                               PYTHONDONTWRITEBYTECODE="1")
            run = subprocess.run([sys.executable, os.path.join(HERE, "whole.py")], cwd=place, env=environment,
                                 capture_output=True, text=True, check=True)
            printed.append(run.stdout)
        self.assertEqual(printed[0], "\n".join(all_told()) + "\n")
        self.assertEqual(len(set(printed)), 1)

    def test_the_bracket_in_both_ways(self):
        kinds = set()
        for drawing in searched(4):
            self.assertEqual(bracket(drawing), bracket_by_all(drawing))
            kinds.add(flat(drawing))
        self.assertEqual(kinds, {True, False})

    def test_every_refusal_stands_right_under_one(self):
        found = [kind for kind in vars(errors).values() if isinstance(kind, type) and kind is not errors.KnotError]
        self.assertEqual(len(found), 15)
        for kind in found:
            self.assertEqual(kind.__bases__, (errors.KnotError,))

    def test_a_desk_tells_of_what_was_handed_in_then(self):
        desk = Desk()
        desk.keep("a", ".")
        told = ["curl", 3, (0, 2), 0, 1]
        desk.move("a", tuple(told))
        told[1] = 4
        self.assertEqual(desk.deeds("a"), [("curl", 3, (0, 2), 0, 1)])


if __name__ == "__main__":
    unittest.main()
