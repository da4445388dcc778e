"""A desk that keeps drawings under words, does moves with them and undoes them (point 45)."""

from knotwise.errors import NothingDone, NoWord
from knotwise.moves import move_of
from knotwise.texts import read_text, text_of
from knotwise.verdicts import all_marks, verdict

LETTERS = "abcdefghijklmnopqrstuvwxyz"
MOST_LETTERS = 8


def may_be_kept_under(word):
    """Whether the word is one to eight letters a to z."""
    return 1 <= len(word) <= MOST_LETTERS and all([letter in LETTERS for letter in word])


class Desk:
    """Keeps drawings under words, each with the moves done since."""

    def __init__(self):
        # For each word the drawing that was kept, and behind it what each move made of the one ahead.
        self.drawings_by = {}
        # For each word the tuples of these moves.
        self.moves_by = {}

    def refuse_unkept(self, word):
        """NoWord where nothing is kept under the word."""
        if word not in self.drawings_by:
            raise NoWord("nothing is kept under this word")

    def at_hand(self, word):
        """The drawing under the word as it is now; NoWord."""
        self.refuse_unkept(word)
        return self.drawings_by[word][-1]

    def keep(self, word, text):
        """Keeps the drawing that the text tells; NoWord, then as read_text."""
        if not may_be_kept_under(word):
            raise NoWord("a word is one to eight letters a to z")
        self.drawings_by[word] = [read_text(text)]
        self.moves_by[word] = []

    def move(self, word, told):
        """Does a move; NoWord, then as move_of, then as done."""
        drawing = self.at_hand(word)
        self.drawings_by[word].append(move_of(told).done(drawing))
        self.moves_by[word].append(told)

    def undo(self, word):
        """Undoes the last move; NoWord, then NothingDone."""
        self.refuse_unkept(word)
        if not self.moves_by[word]:
            raise NothingDone("no move is left to undo")
        self.drawings_by[word].pop()
        self.moves_by[word].pop()

    def words(self):
        """The sorted words under which something is kept."""
        return sorted(self.drawings_by)

    def shown(self, word):
        """The drawing's text; NoWord."""
        return text_of(self.at_hand(word))

    def deeds(self, word):
        """The moves done and not undone since it was kept; NoWord."""
        self.refuse_unkept(word)
        return list(self.moves_by[word])

    def marks(self, word):
        """All marks by their words; NoWord."""
        return all_marks(self.at_hand(word))

    def compared(self, one, other, length=2):
        """The verdict of two words; NoWord, NoLength, TooMany."""
        drawing = self.at_hand(one)
        return verdict(drawing, self.at_hand(other), length)
