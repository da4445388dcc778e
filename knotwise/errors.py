"""The refusals: each stands right under KnotError, none under another one."""


class KnotError(ValueError):
    """Any refusal."""


class NoDrawing(KnotError):
    """Rows that are no drawing: word tells the fault, place where it was found."""

    def __init__(self, word, place):
        KnotError.__init__(self, f"no drawing: {word}, {place}")
        self.word = word
        self.place = place


class NoText(KnotError):
    """A text with a word that writes nothing: the numbers of its line and of the word in it."""

    def __init__(self, line, at):
        KnotError.__init__(self, f"no such word: line {line}, word {at}")
        self.line = line
        self.at = at


class NoName(KnotError):
    """A name that is no crossing's."""


class NameTaken(KnotError):
    """A new name that is a crossing's already."""


class NoSpot(KnotError):
    """A spot that the drawing does not have."""


class TooMany(KnotError):
    """More than may be made or gone through."""


class NoFit(KnotError):
    """A move that does not fit."""


class NoMove(KnotError):
    """A word that is no move's."""


class NoPrime(KnotError):
    """A number that is not 3, 5 or 7."""


class NoString(KnotError):
    """A number that is no string's."""


class NoBraid(KnotError):
    """Letters or strands that tell no braid."""


class NoLength(KnotError):
    """A length that is not from 0 to 4."""


class NoMark(KnotError):
    """A word that is no mark's."""


class NoWord(KnotError):
    """A word that is none, or under which nothing is kept."""


class NothingDone(KnotError):
    """Nothing is left to undo."""
