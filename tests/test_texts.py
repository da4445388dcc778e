import unittest

from knotwise.drawings import checked
from knotwise.errors import NoDrawing, NoText
from knotwise.texts import read_text, text_of
from samples import BENT, CHAIN, CURL, EIGHT, FLAT, HOPF, TREFOIL, assert_own, begun_elsewhere, small_drawings

NO_WORDS = ["", ".", "..", "0o+", "00o+", "01o+", "010o+", "0001o+", "1000o+", "1234u-", "12345o+", "o+", "u-", "+",
            "o", "1", "12", "1o", "1+", "1o*", "1x+", "1xo+", "1O+", "1U-", "1o+-", "1o++", "1oo+", "1ou+", "1+o", "o1+",
            "+1o", "-1o+", "+1o+", "1_0o+", "1o+.", ".1o+", "1.o+", "(1,0,1)", "~", "a1o+", "1ao+",
            "1o=", "1o+,", "1,o+", "1o+;2u+", "1o\\", "1uo", "1-u"]


class WrittenTest(unittest.TestCase):
    def test_the_knot_of_the_document(self):
        self.assertEqual(text_of(TREFOIL), "1o+ 2u+ 3o+ 1u+ 2o+ 3u+")

    def test_hands_and_strings(self):
        self.assertEqual(text_of(CHAIN), "1o+ 2u+\n1u+ 2o+ 3o- 4u-\n3u- 4o-")
        self.assertEqual(text_of(EIGHT), "1o- 4u+ 3o+ 1u- 2o- 3u+ 4o+ 2u-")

    def test_points(self):
        self.assertEqual(text_of([[]]), ".")
        self.assertEqual(text_of([[], [], []]), ".\n.\n.")
        self.assertEqual(text_of([[], [(12, 1, -1), (12, 0, -1)], []]), ".\n12o- 12u-\n.")

    def test_names_of_three_figures(self):
        self.assertEqual(text_of([[(100, 0, 1), (999, 1, -1)], [(100, 1, 1), (999, 0, -1)]]),
                         "100o+ 999u-\n100u+ 999o-")

    def test_rows_are_seated(self):
        for drawing in (TREFOIL, HOPF, CHAIN, CURL + [[]]):
            for rows in begun_elsewhere(drawing):
                self.assertEqual(text_of(rows), text_of(drawing))

    def test_handed_in_stays(self):
        for rows in (TREFOIL, [[], HOPF[0][1:] + HOPF[0][:1], HOPF[1]]):
            assert_own(self, text_of, [list(row) for row in rows])


class ReadTest(unittest.TestCase):
    def refused(self, text, line, at):
        with self.assertRaises(NoText) as taken:
            read_text(text)
        self.assertEqual((taken.exception.line, taken.exception.at), (line, at), text)

    def no_drawing(self, text, word, place):
        with self.assertRaises(NoDrawing) as taken:
            read_text(text)
        self.assertEqual((taken.exception.word, taken.exception.place), (word, place), text)

    def test_reading(self):
        self.assertEqual(read_text("1o+ 2u+ 3o+ 1u+ 2o+ 3u+"), TREFOIL)
        self.assertEqual(read_text(".\n12o- 12u-\n."), [[], [(12, 0, -1), (12, 1, -1)], []])
        self.assertEqual(read_text("999o+ 100u-\n100o- 999u+"),
                         [[(100, 1, -1), (999, 0, 1)], [(100, 0, -1), (999, 1, 1)]])
        self.assertEqual(read_text("."), [[]])

    def test_read_rows_are_seated(self):
        self.assertEqual(read_text("2u+ 3o+ 1u+ 2o+ 3u+ 1o+"), TREFOIL)
        self.assertEqual(read_text("1u- 1o-"), [[(1, 0, -1), (1, 1, -1)]])

    def test_written_and_read_back(self):
        for drawing in FLAT + BENT:
            self.assertEqual(read_text(text_of(drawing)), drawing)
        for drawing in small_drawings():
            self.assertEqual(read_text(text_of(drawing)), checked(drawing))

    def test_each_reading_is_new(self):
        for text in (".", ".\n.", text_of(CHAIN)):
            assert_own(self, read_text, text)

    def test_words_that_are_none(self):
        for word in NO_WORDS:
            self.refused("5o+ " + word, 0, 1)
            self.refused("5o+ 5u+\n.\n7o+ 8o+ " + word + " 7u+", 2, 2)
            self.refused(word + " 5o+", 0, 0)
            if word != ".":
                self.refused(word, 0, 0)

    def test_a_point_beside_others(self):
        self.refused(". 1o+ 1u+", 0, 0)
        self.refused("1o+ 1u+ .", 0, 2)
        self.refused(". .", 0, 0)
        self.refused(" .", 0, 0)
        self.refused(". ", 0, 0)
        self.refused(".\n1o+ . 1u+", 1, 1)

    def test_the_empty_word(self):
        self.refused("", 0, 0)
        self.refused(" ", 0, 0)
        self.refused("1o+  1u+", 0, 1)
        self.refused("1o+ 1u+ ", 0, 2)
        self.refused(" 1o+ 1u+", 0, 0)
        self.refused("1o+ 1u+\n", 1, 0)
        self.refused("\n1o+ 1u+", 0, 0)
        self.refused(".\n\n.", 1, 0)
        self.refused("1o+ 1u+ \n.", 0, 2)
        self.refused("\n", 0, 0)

    def test_the_first_by_lines_then_by_places(self):
        self.refused("1o+ x y\nz", 0, 1)
        self.refused("1o+\n2o+ 3o+ x\ny", 1, 2)
        self.refused("1o+ 1u+\nx\n. .", 1, 0)

    def test_words_ahead_of_the_drawings_faults(self):
        self.refused(".\n.\n.\n.\nx", 4, 0)
        self.refused("1o+ 1o+\n1u- 0o+", 1, 1)
        self.refused("1o+\n ", 1, 0)
        self.refused("1o+ 1u-\n2o+ 3o+ 2o+ 4", 1, 3)

    def test_well_written_and_no_drawing(self):
        self.no_drawing(".\n.\n.\n.", "strings", 4)
        self.no_drawing("1o+ 1u+\n.\n.\n.\n.", "strings", 5)
        self.no_drawing("1o+ 2o+\n1o+", "twice", 2)
        self.no_drawing("1o+ 1o-", "twice", 1)
        self.no_drawing("7o+", "lone", 7)
        self.no_drawing("7o+ 12u+ 12o+", "lone", 7)
        self.no_drawing("3o+\n3u-", "hands", 3)
        self.no_drawing(" ".join(f"{name}o+ {name}u+" for name in range(1, 14)), "many", 13)

    def test_twelve_crossings_and_long_texts(self):
        text = " ".join(f"{name}o+ {name}u+" for name in range(1, 13))
        self.assertEqual(text_of(read_text(text)), text)
        self.refused(" ".join(["999o+"] * 166) + " ", 0, 166)


if __name__ == "__main__":
    unittest.main()
