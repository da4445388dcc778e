"""Drawings written as texts, and read from them (points 9 and 10)."""

from knotwise.drawings import checked, seated_rows
from knotwise.errors import NoText

FIGURES = "0123456789"
MOST_FIGURES = 3
POINT = "."
# What stands behind a name, and the way and hand that it tells.
ENDINGS = {"o+": (0, 1), "o-": (0, -1), "u+": (1, 1), "u-": (1, -1)}


def text_of(drawing):
    """The text that tells the drawing."""
    return "\n".join([line_of(row) for row in seated_rows(drawing)])


def line_of(row):
    """The line that tells a row."""
    if not row:
        return POINT
    return " ".join([word_of(passing) for passing in row])


def word_of(passing):
    """The word that writes a passing."""
    name = passing[0]
    way = "o" if passing[1] == 0 else "u"
    hand = "+" if passing[2] == 1 else "-"
    return f"{name}{way}{hand}"


def read_text(text):
    """The drawing that the text tells; NoText at its first word that is none, else as checked."""
    return checked([row_of(line, number) for number, line in enumerate(text.split("\n"))])


def row_of(line, number):
    """The row that a line tells; NoText at its first word that is none."""
    if line == POINT:
        return []
    row = []
    for at, word in enumerate(line.split(" ")):
        if not writes_passing(word):
            raise NoText(number, at)
        row.append(passing_of(word))
    return row


def writes_passing(word):
    """Whether the word is a name and an ending, and nothing else."""
    return word[-2:] in ENDINGS and writes_name(word[:-2])


def writes_name(figures):
    """Whether the figures are one to three, the first no 0."""
    if not 1 <= len(figures) <= MOST_FIGURES or figures[0] == "0":
        return False
    return all([figure in FIGURES for figure in figures])


def passing_of(word):
    """The passing that a well written word writes."""
    ending = ENDINGS[word[-2:]]
    return (int(word[:-2]), ending[0], ending[1])
