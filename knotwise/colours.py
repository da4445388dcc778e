"""Bows, and their colourings by whole numbers but for multiples of p (points 29 to 31)."""

from knotwise.drawings import names_of, spots_on
from knotwise.errors import NoPrime, TooMany
from knotwise.groups import one_of_each
from knotwise.sides import coming_of

PRIMES = (3, 5, 7)
MOST_GONE_THROUGH = 2500


def bows_on(row, string):
    """For each spot of one string the bow on which it lies."""
    spots = spots_on(row, string)
    unders = [spot for spot in spots if spot[1] == 1]
    # A row is a ring: what stands ahead of its first under passing is on the bow of its last one.
    bow = unders[-1] if unders else (string, 2)
    found = {}
    for spot in spots:
        if spot[1] == 1:
            bow = spot
        found[spot] = bow
    return found


def bow_at(drawing):
    """For each spot of the drawing the bow on which it lies."""
    found = {}
    for string, row in enumerate(drawing):
        found.update(bows_on(row, string))
    return found


def bows(drawing):
    """The sorted bows."""
    return sorted(set(list(bow_at(drawing).values())))


def refuse_other(p):
    """NoPrime where p is none of those by which there are colourings."""
    if p not in PRIMES:
        raise NoPrime("colourings are by 3, 5 or 7")


def places_at(drawing):
    """For each crossing the places of its bows: of the one that passes over, that comes under, that leaves."""
    order = bows(drawing)
    bow = bow_at(drawing)
    coming = coming_of(drawing)
    places = []
    for name in names_of(drawing):
        three = (bow[(name, 0)], bow[coming[(name, 1)]], bow[(name, 1)])
        places.append((order.index(three[0]), order.index(three[1]), order.index(three[2])))
    return places


def keeps_all(places, p, numbers):
    """Whether the numbers hold at each crossing."""
    return all([(2 * numbers[over] - numbers[comes] - numbers[leaves]) % p == 0 for over, comes, leaves in places])


def fits_colours(drawing, p, numbers):
    """Whether the numbers, in the order of the bows, are a colouring; NoPrime."""
    refuse_other(p)
    return keeps_all(places_at(drawing), p, numbers)


def power_of(p, count):
    """The product of so many p."""
    product = 1
    for step in range(count):
        product = product * p
    return product


def all_colourings(drawing, p):
    """The sorted colourings, gone through one by one; NoPrime, then TooMany."""
    refuse_other(p)
    count = len(bows(drawing))
    if power_of(p, count) > MOST_GONE_THROUGH:
        raise TooMany("too many lists of numbers to go through")
    places = places_at(drawing)
    lists = one_of_each([list(range(p)) for bow in range(count)])
    return [numbers for numbers in lists if keeps_all(places, p, numbers)]


def equation_of(three, count, p):
    """What holds at a crossing, as the factors of the bows whose sum comes to nought; a bow may come twice."""
    factors = [0 for place in range(count)]
    factors[three[0]] = factors[three[0]] + 2
    factors[three[1]] = factors[three[1]] - 1
    factors[three[2]] = factors[three[2]] - 1
    return [factor % p for factor in factors]


def last_place(factors):
    """The last place that is not 0, or None."""
    places = [place for place, factor in enumerate(factors) if factor != 0]
    return places[-1] if places else None


def scaled(factors, place, p):
    """The multiple of the factors that has 1 at the place."""
    inverse = [number for number in range(p) if number * factors[place] % p == 1][0]
    return [factor * inverse % p for factor in factors]


def cleared(factors, place, other, p):
    """The factors less the multiple of the other ones that leaves 0 at the place, where these have 1."""
    number = factors[place]
    return [(factor - number * less) % p for factor, less in zip(factors, other)]


def solved(equations, p):
    """Equations by their last place, for the same numbers: each has 1 there, and each other one 0."""
    by_place = {}
    for equation in equations:
        left = equation
        for place in by_place:
            left = cleared(left, place, by_place[place], p)
        last = last_place(left)
        if last is not None:
            left = scaled(left, last, p)
            for place in list(by_place):
                by_place[place] = cleared(by_place[place], last, left, p)
            by_place[last] = left
    return by_place


def basis(drawing, p):
    """The only basis of the colourings that point 31 tells; NoPrime."""
    refuse_other(p)
    count = len(bows(drawing))
    by_place = solved([equation_of(three, count, p) for three in places_at(drawing)], p)
    # The places that no equation ends at are free; what an equation ends at lies behind the free ones that it holds.
    return [colouring_from(by_place, free, count, p) for free in range(count) if free not in by_place]


def colouring_from(by_place, free, count, p):
    """The colouring with 1 at that free place and 0 at the others."""
    numbers = [0 for place in range(count)]
    numbers[free] = 1
    for place, equation in by_place.items():
        numbers[place] = -equation[free] % p
    return numbers


def count_colourings(drawing, p):
    """How many colourings there are; NoPrime."""
    return power_of(p, len(basis(drawing, p)))
