import unittest

from knotwise import errors

PLAIN = ["NoName", "NameTaken", "NoSpot", "TooMany", "NoFit", "NoMove", "NoPrime", "NoString", "NoBraid",
         "NoLength", "NoMark", "NoWord", "NothingDone"]


def refusals():
    made = [getattr(errors, name)("some words") for name in PLAIN]
    return made + [errors.NoDrawing("lone", 7), errors.NoText(2, 5)]


class ErrorsTest(unittest.TestCase):
    def test_fifteen_right_under_knot_error(self):
        self.assertEqual(len(refusals()), 15)
        self.assertEqual(errors.KnotError.__bases__, (ValueError,))
        for refusal in refusals():
            self.assertEqual(type(refusal).__bases__, (errors.KnotError,))

    def test_each_is_taken_as_itself_alone(self):
        for refusal in refusals():
            self.assertIsInstance(refusal, errors.KnotError)
            self.assertIsInstance(refusal, ValueError)
            for other in refusals():
                self.assertEqual(isinstance(refusal, type(other)), type(refusal) is type(other))

    def test_no_drawing_has_word_and_place(self):
        refusal = errors.NoDrawing("lone", 7)
        self.assertEqual((refusal.word, refusal.place), ("lone", 7))

    def test_no_text_has_line_and_at(self):
        refusal = errors.NoText(2, 5)
        self.assertEqual((refusal.line, refusal.at), (2, 5))

    def test_made_with_a_text(self):
        for name in ["KnotError"] + PLAIN:
            self.assertEqual(str(getattr(errors, name)("some words")), "some words")

    def test_values_are_each_objects_own(self):
        one = errors.NoDrawing("way", 1)
        errors.NoDrawing("hand", 2)
        self.assertEqual((one.word, one.place), ("way", 1))


if __name__ == "__main__":
    unittest.main()
