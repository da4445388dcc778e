"""Rows of moves walked and led back, and all that comes by moves that add no crossing (points 39 to 42)."""

from knotwise.drawings import names_of
from knotwise.errors import NoLength, TooMany
from knotwise.fits import lessening
from knotwise.moves import move_of
from knotwise.settled import settled, settling

GREATEST_LENGTH = 4
MOST_SEARCHED = 8


def step(drawing, told):
    """The settled drawing that a move makes; refuses as the move does."""
    return settled(move_of(told).done(drawing))


def walked(drawing, row):
    """The settled drawing at the end of a row of moves; refuses as its moves do."""
    at_hand = settled(drawing)
    for told in row:
        at_hand = step(at_hand, told)
    return at_hand


def with_spare(names, drawing):
    """The dict of names, and a free new name for each name of the drawing that it does not have."""
    wider = dict(names)
    for name in names_of(drawing):
        if name not in wider:
            wider[name] = len(wider) + 1
    return wider


def back_row(drawing, row):
    """A row of as many moves that leads back from the row's end; refuses as walked does."""
    at_hand = settled(drawing)
    found = []
    for told in row:
        move = move_of(told)
        after = settling(move.done(at_hand))
        # What leads back puts in again what the move took out, and the settled names may be those already.
        names = with_spare(after[1], at_hand)
        found.append(move.back(at_hand).renamed(names).told())
        at_hand = after[0]
    return list(reversed(found))


def refuse_search(drawing, length):
    """NoLength, then TooMany, where the drawing's reach is not told."""
    if not 0 <= length <= GREATEST_LENGTH:
        raise NoLength("a length is from 0 to 4")
    if len(names_of(drawing)) > MOST_SEARCHED:
        raise TooMany("too many crossings to search from")


def key_of(drawing):
    """The drawing as a tuple, by which a dict can keep it."""
    return tuple([tuple(row) for row in drawing])


def lessened(drawing, row):
    """Tuples of what comes by one more move that adds no crossing, and the row that leads there."""
    return [(step(drawing, told), row + [told]) for told in lessening(drawing)]


def newly_reached(known, newest):
    """What is one move further than the newest and not known: a dict as reach keeps it."""
    further = {}
    for drawing, row in newest:
        for found in lessened(drawing, row):
            key = key_of(found[0])
            if key not in known and key not in further:
                further[key] = found
    return further


def reach(drawing, length):
    """Sorted tuples (settled drawing, shortest row): all that so many lessening moves come to; NoLength, TooMany."""
    refuse_search(drawing, length)
    start = settled(drawing)
    newest = {key_of(start): (start, [])}
    known = dict(newest)
    for count in range(length):
        newest = newly_reached(known, list(newest.values()))
        known.update(newest)
    return sorted(known.values())


def simplest(drawing, length):
    """Of the reach the first tuple whose drawing has the fewest crossings; NoLength, TooMany."""
    return min(reach(drawing, length), key=lambda found: len(names_of(found[0])))
