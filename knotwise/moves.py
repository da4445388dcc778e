"""The five moves: what each makes and refuses, what leads back, and renaming (points 17 to 20)."""

from knotwise.drawings import MOST_CROSSINGS, hand_of, names_of, next_of, seated_rows, spots_on, string_of
from knotwise.errors import NameTaken, NoFit, NoMove, NoName, NoSpot, TooMany
from knotwise.fits import part_fits, slide_fits, slide_pairs, uncurl_fits


def refuse_unknown(drawing, names):
    """NoName where one of the names is no crossing's."""
    known = names_of(drawing)
    for name in names:
        if name not in known:
            raise NoName("no crossing has this name")


def refuse_unfit(fits):
    """NoFit where the move does not fit."""
    if not fits:
        raise NoFit("the move does not fit")


def refuse_new(drawing, names):
    """TooMany where the new crossings are too many, then NameTaken where a new name is not new."""
    taken = names_of(drawing)
    if len(taken) + len(names) > MOST_CROSSINGS:
        raise TooMany("there would be too many crossings")
    for name in names:
        if name in taken:
            raise NameTaken("a crossing has this name already")
        taken.append(name)


def with_put(drawing, spot, passings):
    """The rows with the passings right behind the spot's, or in the string without passings; NoSpot."""
    string = string_of(drawing, spot)
    rows = list(drawing)
    place = spots_on(rows[string], string).index(spot) + 1
    rows[string] = rows[string][:place] + passings + rows[string][place:]
    return rows


def taken_out(drawing, names):
    """The drawing without the crossings of these names."""
    rows = []
    for row in drawing:
        rows.append([passing for passing in row if passing[0] not in names])
    return seated_rows(rows)


def spot_ahead(drawing, spot, gone):
    """The spot behind which the spot's passing stands where the gone ones are taken out."""
    string = string_of(drawing, spot)
    row = spots_on(drawing[string], string)
    start = row.index(spot)
    left = [other for other in row[start:] + row[:start] if other not in gone]
    if not left:
        return (string, 2)
    return left[-1]


def first_in_turn(drawing, name, second, way):
    """Of two neighbours with that way the name of the one behind which the other is next."""
    if next_of(drawing)[(name, way)] == (second, way):
        return name
    return second


def with_changed(drawing, pairs):
    """The drawing with the two passings of each pair at one another's places."""
    partner = {}
    for one, other in pairs:
        partner[one] = other
        partner[other] = one
    rows = []
    for row in drawing:
        spots = [partner.get(passing[:2], passing[:2]) for passing in row]
        rows.append([(spot[0], spot[1], hand_of(drawing, spot[0])) for spot in spots])
    return seated_rows(rows)


def renamed_spot(spot, names):
    """The spot with its crossing's name renamed; the number of a string is no name."""
    if spot[1] == 2:
        return spot
    return (names.get(spot[0], spot[0]), spot[1])


class Move:
    """What a move does: each of the five has told, done, back and renamed."""


class Uncurl(Move):
    """A crossing whose two passings are neighbours is taken out."""

    def __init__(self, name):
        self.name = name

    def told(self):
        """Its tuple."""
        return ("uncurl", self.name)

    def refuse(self, drawing):
        """NoName, then NoFit, where it can't be done."""
        refuse_unknown(drawing, [self.name])
        refuse_unfit(uncurl_fits(drawing, self.name))

    def done(self, drawing):
        """The drawing that it makes."""
        self.refuse(drawing)
        return taken_out(drawing, [self.name])

    def back(self, drawing):
        """The curl that leads back to the drawing."""
        self.refuse(drawing)
        over = (self.name, 0)
        under = (self.name, 1)
        first = over if next_of(drawing)[over] == under else under
        spot = spot_ahead(drawing, first, [over, under])
        return Curl(self.name, spot, first[1], hand_of(drawing, self.name))

    def renamed(self, names):
        """The same move with other names."""
        return Uncurl(names.get(self.name, self.name))


class Curl(Move):
    """A new crossing of a string with itself, its two passings neighbours."""

    def __init__(self, name, spot, first, hand):
        self.name = name
        self.spot = spot
        self.first = first
        self.hand = hand

    def told(self):
        """Its tuple."""
        return ("curl", self.name, self.spot, self.first, self.hand)

    def done(self, drawing):
        """The drawing that it makes; TooMany, then NameTaken, then NoSpot."""
        refuse_new(drawing, [self.name])
        passings = [(self.name, self.first, self.hand), (self.name, 1 - self.first, self.hand)]
        return seated_rows(with_put(drawing, self.spot, passings))

    def back(self, drawing):
        """The uncurl that leads back to the drawing."""
        self.done(drawing)
        return Uncurl(self.name)

    def renamed(self, names):
        """The same move with other names."""
        return Curl(names.get(self.name, self.name), renamed_spot(self.spot, names), self.first, self.hand)


class Part(Move):
    """Two crossings of unlike hands, neighbours above and below, are taken out."""

    def __init__(self, name, second):
        self.name = name
        self.second = second

    def told(self):
        """Its tuple."""
        return ("part", self.name, self.second)

    def refuse(self, drawing):
        """NoName, then NoFit, where it can't be done."""
        refuse_unknown(drawing, [self.name, self.second])
        refuse_unfit(part_fits(drawing, self.name, self.second))

    def done(self, drawing):
        """The drawing that it makes."""
        self.refuse(drawing)
        return taken_out(drawing, [self.name, self.second])

    def back(self, drawing):
        """The lay that leads back to the drawing."""
        self.refuse(drawing)
        first = first_in_turn(drawing, self.name, self.second, 0)
        other = self.second if first == self.name else self.name
        lower = first_in_turn(drawing, self.name, self.second, 1)
        overs = [(self.name, 0), (self.second, 0)]
        unders = [(self.name, 1), (self.second, 1)]
        over = spot_ahead(drawing, (first, 0), overs + unders)
        # A lay looks the spot under up when its over passings are there already.
        under = spot_ahead(drawing, (lower, 1), unders)
        turned = 0 if lower == first else 1
        return Lay(first, other, over, under, turned, hand_of(drawing, first))

    def renamed(self, names):
        """The same move with other names."""
        return Part(names.get(self.name, self.name), names.get(self.second, self.second))


class Lay(Move):
    """A stretch is laid over a stretch: two new crossings of unlike hands."""

    def __init__(self, name, second, over, under, turned, hand):
        self.name = name
        self.second = second
        self.over = over
        self.under = under
        self.turned = turned
        self.hand = hand

    def told(self):
        """Its tuple."""
        return ("lay", self.name, self.second, self.over, self.under, self.turned, self.hand)

    def passings(self, way):
        """The two new passings with that way, the first name's first."""
        return [(self.name, way, self.hand), (self.second, way, -self.hand)]

    def done(self, drawing):
        """The drawing that it makes; TooMany, then NameTaken, then NoSpot."""
        refuse_new(drawing, [self.name, self.second])
        if self.under == (self.name, 0):
            raise NoSpot("nothing comes between the two new over passings")
        above = with_put(drawing, self.over, self.passings(0))
        unders = self.passings(1) if self.turned == 0 else self.passings(1)[::-1]
        return seated_rows(with_put(above, self.under, unders))

    def back(self, drawing):
        """The part that leads back to the drawing."""
        self.done(drawing)
        return Part(self.name, self.second)

    def renamed(self, names):
        """The same move with other names."""
        name = names.get(self.name, self.name)
        second = names.get(self.second, self.second)
        over = renamed_spot(self.over, names)
        under = renamed_spot(self.under, names)
        return Lay(name, second, over, under, self.turned, self.hand)


class Slide(Move):
    """A string that lies over two others, or under both, is drawn across where these two cross."""

    def __init__(self, name, second, third, turn):
        self.name = name
        self.second = second
        self.third = third
        self.turn = turn

    def told(self):
        """Its tuple."""
        return ("slide", self.name, self.second, self.third, self.turn)

    def refuse(self, drawing):
        """NoName, then NoFit, where it can't be done."""
        refuse_unknown(drawing, [self.name, self.second, self.third])
        refuse_unfit(slide_fits(drawing, self.name, self.second, self.third, self.turn))

    def done(self, drawing):
        """The drawing that it makes."""
        self.refuse(drawing)
        return with_changed(drawing, slide_pairs(drawing, self.name, self.second, self.third, self.turn))

    def back(self, drawing):
        """The slide that leads back to the drawing: each pair stands the other way about."""
        self.refuse(drawing)
        return Slide(self.name, self.second, self.third, -self.turn)

    def renamed(self, names):
        """The same move with other names."""
        name = names.get(self.name, self.name)
        second = names.get(self.second, self.second)
        return Slide(name, second, names.get(self.third, self.third), self.turn)


def move_of(told):
    """The move that a tuple tells; NoMove where its word is none of the five."""
    if told[0] == "uncurl":
        return Uncurl(told[1])
    if told[0] == "curl":
        return Curl(told[1], told[2], told[3], told[4])
    if told[0] == "part":
        return Part(told[1], told[2])
    if told[0] == "lay":
        return Lay(told[1], told[2], told[3], told[4], told[5], told[6])
    if told[0] == "slide":
        return Slide(told[1], told[2], told[3], told[4])
    raise NoMove("no move has this word")
