import unittest
from inspect import isclass, isfunction, signature

from knotwise import (braids, brackets, colours, desk, drawings, errors, fits, makings, marks, moves, polys, search,
                      settled, sides, texts, verdicts)

# The names and arguments of the document's interface.
FUNCTIONS = {
    drawings: ["checked(rows)", "seated(row)", "names_of(drawing)", "hand_of(drawing, name)", "spots_of(drawing)",
               "next_of(drawing)", "string_of(drawing, spot)"],
    texts: ["text_of(drawing)", "read_text(text)"],
    sides: ["sides_of(drawing)", "regions(drawing)", "pieces(drawing)", "flat(drawing)",
            "near(drawing, over, under, turned, hand)"],
    moves: ["move_of(told)"],
    fits: ["lessening(drawing)"],
    polys: ["added(one, other)", "times(one, other)", "shifted(one, by, factor)", "turned(one)", "raised(one, count)",
            "poly_text(one)"],
    brackets: ["rings(drawing, choice)", "power(drawing, choice)", "bracket_by_all(drawing)", "opened(drawing, names)",
               "bracket(drawing)"],
    marks: ["writhe(drawing)", "linking(drawing)", "levelled(drawing)"],
    colours: ["bows(drawing)", "bow_at(drawing)", "fits_colours(drawing, p, numbers)", "all_colourings(drawing, p)",
              "basis(drawing, p)", "count_colourings(drawing, p)"],
    makings: ["switched(drawing)", "reflected(drawing)", "run_back(drawing, string)", "beside(one, other)",
              "tied(one, spot, other, other_spot)"],
    braids: ["closed(letters, strands)"],
    settled: ["settled(drawing)", "settling(drawing)"],
    search: ["walked(drawing, row)", "back_row(drawing, row)", "reach(drawing, length)", "simplest(drawing, length)"],
    verdicts: ["mark_by(word)", "verdict(one, other, length=2)"],
}
MOVES = ["Uncurl(name)", "Curl(name, spot, first, hand)", "Part(name, second)",
         "Lay(name, second, over, under, turned, hand)", "Slide(name, second, third, turn)"]
METHODS = ["told(self)", "done(self, drawing)", "back(self, drawing)", "renamed(self, names)"]
DESK = ["keep(self, word, text)", "move(self, word, told)", "undo(self, word)", "words(self)", "shown(self, word)",
        "deeds(self, word)", "marks(self, word)", "compared(self, one, other, length=2)"]


class InterfaceTest(unittest.TestCase):
    def test_functions_and_their_arguments(self):
        for module, forms in FUNCTIONS.items():
            for form in forms:
                function = getattr(module, form.split("(")[0])
                self.assertTrue(isfunction(function))
                self.assertEqual(function.__name__ + str(signature(function)), form)

    def test_moves_and_their_methods(self):
        for form in MOVES:
            kind = getattr(moves, form.split("(")[0])
            self.assertEqual(kind.__name__ + str(signature(kind)), form)
            for method in METHODS:
                function = getattr(kind, method.split("(")[0])
                self.assertEqual(function.__name__ + str(signature(function)), method)

    def test_the_desk_and_its_methods(self):
        self.assertTrue(isclass(desk.Desk))
        self.assertEqual(str(signature(desk.Desk)), "()")
        for method in DESK:
            function = getattr(desk.Desk, method.split("(")[0])
            self.assertEqual(function.__name__ + str(signature(function)), method)

    def test_refusals_with_values(self):
        self.assertTrue(isclass(errors.NoDrawing) and isclass(errors.NoText))
        self.assertEqual(str(signature(errors.NoDrawing)), "(word, place)")
        self.assertEqual(str(signature(errors.NoText)), "(line, at)")


if __name__ == "__main__":
    unittest.main()
