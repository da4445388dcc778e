import unittest
from inspect import isclass, isfunction, signature

from knotwise import drawings, errors, sides, texts

# The names and arguments of the document's interface.
FUNCTIONS = {
    drawings: ["checked(rows)", "seated(row)", "names_of(drawing)", "hand_of(drawing, name)", "spots_of(drawing)",
               "next_of(drawing)", "string_of(drawing, spot)"],
    texts: ["text_of(drawing)", "read_text(text)"],
    sides: ["sides_of(drawing)", "regions(drawing)", "pieces(drawing)", "flat(drawing)",
            "near(drawing, over, under, turned, hand)"],
}


class InterfaceTest(unittest.TestCase):
    def test_functions_and_their_arguments(self):
        for module, forms in FUNCTIONS.items():
            for form in forms:
                function = getattr(module, form.split("(")[0])
                self.assertTrue(isfunction(function))
                self.assertEqual(function.__name__ + str(signature(function)), form)

    def test_refusals_with_values(self):
        self.assertTrue(isclass(errors.NoDrawing) and isclass(errors.NoText))
        self.assertEqual(str(signature(errors.NoDrawing)), "(word, place)")
        self.assertEqual(str(signature(errors.NoText)), "(line, at)")


if __name__ == "__main__":
    unittest.main()
