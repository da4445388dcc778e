"""Polynomials in A: dicts from powers to the numbers before them, none of which is 0 (point 23)."""

LOOP = {2: -1, -2: -1}


def without_noughts(sums):
    """The polynomial of the sums: powers before which 0 stands are left out."""
    kept = {}
    for power, number in sums.items():
        if number != 0:
            kept[power] = number
    return kept


def added(one, other):
    """The sum of two polynomials."""
    sums = dict(one)
    for power, number in other.items():
        sums[power] = sums.get(power, 0) + number
    return without_noughts(sums)


def times(one, other):
    """The product of two polynomials."""
    sums = {}
    for power, number in one.items():
        for other_power, other_number in other.items():
            both = power + other_power
            sums[both] = sums.get(both, 0) + number * other_number
    return without_noughts(sums)


def shifted(one, by, factor):
    """Each power greater by a number, each number before it times the factor."""
    sums = {}
    for power, number in one.items():
        sums[power + by] = number * factor
    return without_noughts(sums)


def turned(one):
    """Each power with the other sign."""
    sums = {}
    for power, number in one.items():
        sums[-power] = number
    return sums


def raised(one, count):
    """The product of the polynomial with itself, so many times; 1 for none."""
    product = {0: 1}
    for step in range(count):
        product = times(product, one)
    return product


def term_text(power, number):
    """One power and the number before it, written."""
    return f"{power}:{number}"


def poly_text(one):
    """The polynomial, written with powers rising."""
    if not one:
        return "0"
    return " ".join([term_text(power, one[power]) for power in sorted(one)])
