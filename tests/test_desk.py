import unittest

from knotwise.braids import closed
from knotwise.desk import Desk
from knotwise.drawings import names_of
from knotwise.errors import (KnotError, NameTaken, NoDrawing, NoFit, NoLength, NoMove, NoName, NoSpot, NoText, NothingDone,
                             NoWord, TooMany)
from knotwise.moves import move_of
from knotwise.search import walked
from knotwise.settled import settled
from knotwise.texts import read_text, text_of
from knotwise.verdicts import mark_by, verdict
from samples import BENT, FLAT, HOPF, TREFOIL, curls, kept_within
from settles import did, tangled
from walks import some_row

KNOT = text_of(TREFOIL)
WORDS = ["strings", "linking", "colours 3", "colours 5", "colours 7", "bracket"]
NO_WORDS = ["", "abcdefghi", "z" * 40, "A", "aB", "Z", "a b", " a", "a ", "a1", "7", "a-b", "a_b", "a.", "a\n", "\n", "`",
            "{", "@", "["]
NO_TEXTS = [("", NoText), ("1o+  1u+", NoText), ("x", NoText), (". .", NoText), ("1o+", NoDrawing),
            ("1o+ 1u-", NoDrawing), (".\n.\n.\n.", NoDrawing), ("1o+ 1o+", NoDrawing)]
# Moves, each with what a desk refuses it with where it keeps 1o+ 1u+ 5o- 5u- and a string without passings.
TEXT = "1o+ 1u+ 5o- 5u-\n."
NO_MOVES = [(("", 1), NoMove), (("curls", 1, (1, 0), 0, 1), NoMove), (("undo",), NoMove),
            (("uncurl", 2), NoName), (("part", 1, 2), NoName), (("slide", 1, 5, 3, 1), NoName),
            (("part", 1, 5), NoFit), (("part", 1, 1), NoFit), (("slide", 1, 5, 1, 1), NoFit),
            (("curl", 5, (1, 0), 0, 1), NameTaken), (("lay", 2, 5, (1, 0), (1, 1), 0, 1), NameTaken),
            (("lay", 2, 2, (1, 0), (1, 1), 0, 1), NameTaken), (("curl", 2, (0, 2), 0, 1), NoSpot),
            (("lay", 2, 3, (1, 0), (2, 0), 0, 1), NoSpot), (("lay", 2, 3, (1, 2), (1, 2), 0, 1), NoSpot)]


def desk_with(**texts):
    desk = Desk()
    for word, text in texts.items():
        desk.keep(word, text)
    return desk


def state(desk):
    """All that a desk tells of its words."""
    return [(word, desk.shown(word), desk.deeds(word), desk.marks(word)) for word in desk.words()]


class DeskTest(unittest.TestCase):
    def assert_refused(self, error, method, *handed):
        """The refusal itself, and that the desk is as it was."""
        before = state(method.__self__)
        with self.assertRaises(KnotError) as caught:
            method(*handed)
        self.assertIs(type(caught.exception), error, handed)
        self.assertEqual(state(method.__self__), before, handed)


class KeepTest(DeskTest):
    def test_nothing_at_first(self):
        self.assertEqual(Desk().words(), [])

    def test_kept(self):
        desk = Desk()
        self.assertIsNone(desk.keep("knot", KNOT))
        self.assertIsNone(desk.keep("ring", "."))
        self.assertEqual(desk.words(), ["knot", "ring"])
        self.assertEqual(desk.shown("knot"), KNOT)
        self.assertEqual(desk.shown("ring"), ".")
        self.assertEqual(desk.deeds("knot"), [])

    def test_told_with_its_least_passings_first(self):
        desk = desk_with(a="2u+ 3o+ 1u+ 2o+ 3u+ 1o+", b=".\n999u- 999o-")
        self.assertEqual(desk.shown("a"), KNOT)
        self.assertEqual(desk.shown("b"), ".\n999o- 999u-")

    def test_words(self):
        desk = Desk()
        words = ["a", "z", "abcdefgh", "zzzzzzzz", "m", "az", "aa", "keep", "ijklmnop", "qrstuvwx", "yz"]
        for word in words:
            desk.keep(word, ".")
        self.assertEqual(desk.words(), sorted(words))

    def test_no_words(self):
        desk = desk_with(a=KNOT)
        for word in NO_WORDS + ["\u00e9", "a\u00df"]:
            self.assert_refused(NoWord, desk.keep, word, KNOT)
            for text, error in NO_TEXTS:
                self.assert_refused(NoWord, desk.keep, word, text)

    def test_no_texts(self):
        desk = desk_with(a=KNOT)
        desk.move("a", ("curl", 4, (1, 0), 0, 1))
        for text, error in NO_TEXTS:
            self.assert_refused(error, desk.keep, "a", text)
            self.assert_refused(error, desk.keep, "b", text)
        with self.assertRaises(NoText) as caught:
            desk.keep("b", ".\n1o+ x 1u+")
        self.assertEqual((caught.exception.line, caught.exception.at), (1, 1))
        with self.assertRaises(NoDrawing) as caught:
            desk.keep("b", "7o+")
        self.assertEqual((caught.exception.word, caught.exception.place), ("lone", 7))

    def test_in_the_place_of_what_was_kept(self):
        desk = desk_with(a=KNOT, b=".")
        desk.move("a", ("curl", 4, (1, 0), 0, 1))
        desk.keep("a", "1o+ 1u+")
        self.assertEqual((desk.shown("a"), desk.deeds("a"), desk.words()), ("1o+ 1u+", [], ["a", "b"]))
        self.assert_refused(NothingDone, desk.undo, "a")
        desk.keep("a", "1o+ 1u+")
        self.assertEqual((desk.shown("a"), desk.shown("b")), ("1o+ 1u+", "."))


class MoveTest(DeskTest):
    def test_each_move(self):
        desk = desk_with(a=".\n.")
        steps = [(("lay", 7, 3, (0, 2), (1, 2), 0, 1), "3o- 7o+\n3u- 7u+"),
                 (("curl", 999, (3, 1), 1, -1), "3o- 7o+\n3u- 999u- 999o- 7u+"),
                 (("uncurl", 999), "3o- 7o+\n3u- 7u+"),
                 (("part", 7, 3), ".\n.")]
        for number, (told, text) in enumerate(steps, 1):
            self.assertIsNone(desk.move("a", told))
            self.assertEqual(desk.shown("a"), text)
            self.assertEqual(desk.deeds("a"), [step[0] for step in steps[:number]])
        desk.keep("b", "1o+ 2o+\n1u+ 3o+\n2u+ 3u+")
        desk.move("b", ("slide", 1, 2, 3, 1))
        self.assertEqual(desk.shown("b"), text_of(did(read_text("1o+ 2o+\n1u+ 3o+\n2u+ 3u+"), ("slide", 1, 2, 3, 1))))
        self.assertEqual(desk.deeds("b"), [("slide", 1, 2, 3, 1)])

    def test_the_deeds_are_as_handed_in(self):
        desk = desk_with(a="9o+ 9u+ 7o+ 8o-\n8u- 7u+")
        row = [("part", 8, 7), ("uncurl", 9), ("curl", 1, (1, 2), 0, 1)]
        for told in row:
            desk.move("a", told)
        self.assertEqual(desk.deeds("a"), row)
        self.assertTrue(all(type(told) is tuple for told in desk.deeds("a")))

    def test_rows_by_chance(self):
        for number, drawing in enumerate(FLAT + BENT):
            desk = desk_with(a=text_of(drawing))
            row = some_row(drawing, did, 8, number + 60)
            texts = []
            for at_hand, told in row:
                texts.append(desk.shown("a"))
                self.assertEqual(texts[-1], text_of(at_hand))
                desk.move("a", told)
            self.assertEqual(desk.deeds("a"), [told for at_hand, told in row])
            for count in range(len(row) - 1, -1, -1):
                self.assertIsNone(desk.undo("a"))
                self.assertEqual(desk.shown("a"), texts[count])
                self.assertEqual(desk.deeds("a"), [told for at_hand, told in row[:count]])
            self.assert_refused(NothingDone, desk.undo, "a")

    def test_refused(self):
        desk = desk_with(a=TEXT, b=TEXT)
        desk.move("a", ("curl", 9, (5, 1), 0, 1))
        desk.move("a", ("uncurl", 9))
        for told, error in NO_MOVES:
            for word in ("a", "b"):
                self.assert_refused(error, desk.move, word, told)
            for word in ("c", "ab", "") + tuple(NO_WORDS):
                self.assert_refused(NoWord, desk.move, word, told)
        desk.undo("a")
        self.assertEqual(desk.shown("a"), "1o+ 1u+ 5o- 5u- 9o+ 9u+\n.")

    def test_too_many(self):
        desk = desk_with(a=text_of([curls(11)]))
        self.assert_refused(TooMany, desk.move, "a", ("lay", 1, 1, (0, 2), (0, 2), 0, 1))
        desk.move("a", ("curl", 12, (1, 0), 0, 1))
        self.assert_refused(TooMany, desk.move, "a", ("curl", 12, (0, 2), 0, 1))
        self.assertEqual(len(desk.marks("a")), 6)


class UndoTest(DeskTest):
    def test_the_very_drawing(self):
        desk = desk_with(a="999o- 999u- 4o+ 4u+")
        desk.move("a", ("uncurl", 999))
        desk.move("a", ("curl", 1, (4, 0), 1, 1))
        desk.undo("a")
        self.assertEqual(desk.shown("a"), "4o+ 4u+")
        desk.undo("a")
        self.assertEqual(desk.shown("a"), "4o+ 4u+ 999o- 999u-")

    def test_other_moves_behind_an_undo(self):
        desk = desk_with(a=".")
        desk.move("a", ("curl", 1, (0, 2), 0, 1))
        desk.move("a", ("curl", 2, (1, 0), 0, 1))
        desk.undo("a")
        desk.move("a", ("curl", 3, (1, 1), 0, -1))
        self.assertEqual(desk.deeds("a"), [("curl", 1, (0, 2), 0, 1), ("curl", 3, (1, 1), 0, -1)])
        self.assertEqual(desk.shown("a"), "1o+ 1u+ 3o- 3u-")
        desk.undo("a")
        self.assertEqual(desk.shown("a"), "1o+ 1u+")
        desk.undo("a")
        self.assertEqual((desk.shown("a"), desk.deeds("a")), (".", []))

    def test_nothing_done(self):
        desk = desk_with(a=".", b=".")
        self.assert_refused(NothingDone, desk.undo, "a")
        desk.move("a", ("curl", 1, (0, 2), 0, 1))
        self.assert_refused(NothingDone, desk.undo, "b")
        desk.undo("a")
        self.assert_refused(NothingDone, desk.undo, "a")
        desk.move("a", ("curl", 1, (0, 2), 0, 1))
        desk.keep("a", ".")
        self.assert_refused(NothingDone, desk.undo, "a")

    def test_one_word_alone(self):
        desk = desk_with(a=KNOT, b=KNOT)
        desk.move("a", ("curl", 4, (1, 0), 0, 1))
        desk.move("b", ("curl", 5, (1, 0), 0, 1))
        desk.undo("a")
        self.assertEqual((desk.deeds("a"), desk.shown("a")), ([], KNOT))
        self.assertEqual(desk.deeds("b"), [("curl", 5, (1, 0), 0, 1)])
        self.assertEqual(desk.shown("b"), "1o+ 5o+ 5u+ 2u+ 3o+ 1u+ 2o+ 3u+")


class ToldTest(DeskTest):
    def test_marks(self):
        for drawing in FLAT + BENT + [[curls(12)], closed([1, -2] * 6, 3), tangled(5)]:
            told = desk_with(a=text_of(drawing)).marks("a")
            self.assertEqual(list(told), WORDS)
            self.assertEqual(told, {word: mark_by(word)(drawing) for word in WORDS})

    def test_marks_stay_whatever_is_done(self):
        desk = desk_with(a=text_of(HOPF))
        before = desk.marks("a")
        for told in (("curl", 8, (1, 0), 0, -1), ("lay", 3, 4, (8, 1), (2, 0), 0, -1), ("uncurl", 8)):
            desk.move("a", told)
            self.assertEqual(desk.marks("a"), before)

    def test_compared(self):
        desk = desk_with(a=text_of(HOPF), b=text_of(HOPF), ring=".", knot=KNOT, two="1o+ 1u+ 2o+ 2u+",
                         three="1o+ 1u+ 2o+ 2u+ 3o+ 3u+")
        self.assertEqual(desk.compared("a", "b", 0), ("alike", []))
        self.assertEqual(desk.compared("a", "ring"), ("apart", "strings", 2, 1))
        self.assertEqual(desk.compared("ring", "knot", 4), ("apart", "colours 3", 3, 9))
        self.assertEqual(desk.compared("two", "ring"), ("alike", [("uncurl", 1), ("uncurl", 1)]))
        self.assertEqual(desk.compared("two", "ring", 1), ("open",))
        self.assertEqual(desk.compared("three", "ring"), ("open",))
        self.assertEqual(desk.compared("three", "three", 4), ("alike", []))
        kind, row = desk.compared("ring", "three", 3)
        self.assertEqual(walked([[]], row), settled([curls(3)]))

    def test_compared_as_they_are_now(self):
        desk = desk_with(a=KNOT, b=KNOT)
        for told in (("curl", 4, (1, 0), 0, 1), ("curl", 5, (1, 1), 1, -1), ("lay", 6, 7, (2, 0), (4, 1), 1, 1)):
            desk.move("b", told)
            now = [read_text(desk.shown(word)) for word in ("a", "b")]
            for length in range(5):
                told = desk.compared("a", "b", length)
                self.assertEqual(told, verdict(now[0], now[1], length))
                self.assertNotEqual(told[0], "apart")
        self.assertEqual(desk.deeds("a"), [])

    def test_compared_is_refused(self):
        desk = desk_with(a=".", nine=text_of([curls(9)]), eight=text_of([curls(8)]))
        for length in (2, -1, 5, 10 ** 59):
            for one, other in (("c", "a"), ("a", "c"), ("c", "d"), ("", "a"), ("a", "A"), ("nine", "c"), ("c", "nine")):
                self.assert_refused(NoWord, desk.compared, one, other, length)
        for length in (-1, 5, 10 ** 60 - 1, 1 - 10 ** 60):
            for one, other in (("a", "a"), ("nine", "a"), ("a", "nine"), ("eight", "eight")):
                self.assert_refused(NoLength, desk.compared, one, other, length)
        for length in range(5):
            for one, other in (("nine", "a"), ("a", "nine"), ("nine", "nine")):
                self.assert_refused(TooMany, desk.compared, one, other, length)
        self.assert_refused(TooMany, desk.compared, "nine", "eight")
        self.assertEqual(desk.compared("eight", "a", 4), ("open",))

    def test_words_under_which_nothing_is_kept(self):
        desk = desk_with(a=".")
        for word in ["b", "aa", "abcdefgh"] + NO_WORDS:
            for method in (desk.undo, desk.shown, desk.deeds, desk.marks):
                self.assert_refused(NoWord, method, word)


class OwnTest(DeskTest):
    def test_what_was_told_is_the_asker_s_own(self):
        desk = desk_with(a=text_of(HOPF), b=".\n.", c="1o+ 1u+ 2o- 2u-", d="1o- 1u-")
        desk.move("a", ("curl", 4, (1, 0), 0, 1))
        desk.move("a", ("curl", 5, (1, 0), 0, 1))
        asked = [desk.words, lambda: desk.deeds("a"), lambda: desk.marks("a"), lambda: desk.compared("a", "b", 1),
                 lambda: desk.compared("c", "d", 2)]
        before = [repr(ask()) for ask in asked] + [repr(state(desk))]
        for ask in asked:
            for part in kept_within(ask()):
                part.clear()
            self.assertEqual([repr(ask()) for ask in asked] + [repr(state(desk))], before)
        told = [ask() for ask in asked]
        desk.undo("a")
        desk.keep("b", ".")
        desk.keep("e", ".")
        desk.move("c", ("uncurl", 1))
        self.assertEqual([repr(one) for one in told], before[:-1])

    def test_two_desks_know_nothing_of_one_another(self):
        one, other = Desk(), Desk()
        one.keep("a", KNOT)
        self.assertEqual(other.words(), [])
        self.assert_refused(NoWord, other.shown, "a")
        other.keep("a", ".")
        one.move("a", ("curl", 4, (1, 0), 0, 1))
        self.assert_refused(NothingDone, other.undo, "a")
        self.assertEqual((one.shown("a"), other.shown("a")), ("1o+ 4o+ 4u+ 2u+ 3o+ 1u+ 2o+ 3u+", "."))
        self.assertEqual((len(one.deeds("a")), other.deeds("a")), (1, []))
        self.assertEqual(Desk().words(), [])

    def test_moves_hold_as_on_drawings(self):
        for seed in range(6):
            drawing = tangled(seed, most=10)
            desk = desk_with(a=text_of(drawing))
            for told in (("curl", 500, (99, 0), 0, 1), ("uncurl", names_of(drawing)[0] if names_of(drawing) else 1)):
                try:
                    made = text_of(move_of(told).done(drawing))
                except KnotError as error:
                    self.assert_refused(type(error), desk.move, "a", told)
                else:
                    desk.move("a", told)
                    self.assertEqual(desk.shown("a"), made)
                    desk.undo("a")


if __name__ == "__main__":
    unittest.main()
