"""Settled drawings: the least of all that are alike but for names and beginnings (point 38)."""

from knotwise.drawings import passings_of, seated_rows
from knotwise.groups import one_of_each
from knotwise.makings import renamed_rows


def beginnings(row):
    """The row begun with each of its passings; a row without passings once."""
    if not row:
        return [[]]
    return [row[start:] + row[:start] for start in range(len(row))]


def names_as_met(rows):
    """For each name its number, from 1, in the order in which the names are first met."""
    numbers = {}
    for passing in passings_of(rows):
        if passing[0] not in numbers:
            numbers[passing[0]] = len(numbers) + 1
    return numbers


def settling_from(rows):
    """A tuple: what the rows are with names as they are met from these beginnings, and the dict of names."""
    names = names_as_met(rows)
    return (seated_rows(renamed_rows(rows, names)), names)


def settling(drawing):
    """A tuple: the settled drawing, and the dict from each old name to the new one by which it comes so."""
    made = [settling_from(rows) for rows in one_of_each([beginnings(row) for row in drawing])]
    return min(made, key=lambda both: both[0])


def settled(drawing):
    """The settled drawing."""
    return settling(drawing)[0]
