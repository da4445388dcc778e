"""Crossings split along or against, and the bracket told in two ways (points 24 to 26)."""

from knotwise.drawings import hand_of, names_of, next_of, spots_of
from knotwise.groups import grouped, one_of_each
from knotwise.polys import LOOP, added, raised, shifted, times
from knotwise.sides import coming_of

ALONG = 0
AGAINST = 1


def joints(name, split):
    """The two pairs of ends that are joined at a crossing; an end is (name, way, 0 come or 1 left)."""
    if split == ALONG:
        return [((name, 0, 0), (name, 1, 1)), ((name, 1, 0), (name, 0, 1))]
    return [((name, 0, 0), (name, 1, 0)), ((name, 0, 1), (name, 1, 1))]


def power_at(hand, split):
    """What one split crossing gives to the power."""
    return hand if split == ALONG else -hand


def stretch_at(coming, end):
    """The spot of the stretch that has this end."""
    spot = end[:2]
    return coming[spot] if end[2] == 0 else spot


def rings(drawing, choice):
    """How many rings the drawing falls into, split by the choice."""
    coming = coming_of(drawing)
    joined = []
    for name, split in choice.items():
        for one, other in joints(name, split):
            joined.append((stretch_at(coming, one), stretch_at(coming, other)))
    return len(grouped(spots_of(drawing), joined))


def power(drawing, choice):
    """The power of the choice."""
    return sum([power_at(hand_of(drawing, name), split) for name, split in choice.items()])


def choices_of(names):
    """All choices for these names."""
    return [dict(zip(names, splits)) for splits in one_of_each([(ALONG, AGAINST) for name in names])]


def bracket_by_all(drawing):
    """The bracket, summed over all choices."""
    # Choices with the same power and rings give the same, so they are counted first.
    counts = {}
    for choice in choices_of(names_of(drawing)):
        key = (power(drawing, choice), rings(drawing, choice))
        counts[key] = counts.get(key, 0) + 1
    total = {}
    for key, count in counts.items():
        total = added(total, shifted(raised(dict(LOOP), key[1]), key[0], count))
    return total


def plan_of(far):
    """The plan of threads that are told by each end's far end."""
    return tuple(sorted([(end, far[end]) for end in far if end < far[end]]))


def whole_plan(drawing):
    """The plan where nothing is split: each stretch is a thread."""
    threads = [(spot + (1,), after + (0,)) for spot, after in next_of(drawing).items()]
    return plan_of(far_ends(threads))


def far_ends(threads):
    """For each end of the threads the other end of its thread."""
    far = {}
    for one, other in threads:
        far[one] = other
        far[other] = one
    return far


def joined_plan(plan, pairs):
    """A tuple: the plan where the pairs of ends are joined, and how many rings that closes."""
    far = far_ends(plan)
    closed = 0
    for one, other in pairs:
        before = far.pop(one)
        after = far.pop(other)
        if before == other:
            closed = closed + 1
        else:
            far[before] = after
            far[after] = before
    return (plan_of(far), closed)


def opened_at(sums, name, hand):
    """The sums by plans, opened at one more crossing."""
    after = {}
    for plan, poly in sums.items():
        for split in (ALONG, AGAINST):
            made = joined_plan(plan, joints(name, split))
            part = shifted(times(poly, raised(dict(LOOP), made[1])), power_at(hand, split), 1)
            after[made[0]] = added(after.get(made[0], {}), part)
    kept = {}
    for plan, poly in after.items():
        if poly:
            kept[plan] = poly
    return kept


def opened(drawing, names):
    """The drawing opened at the names: for each plan its sum; NoName."""
    hands = [hand_of(drawing, name) for name in names]
    loose = len([row for row in drawing if not row])
    sums = {whole_plan(drawing): raised(dict(LOOP), loose)}
    for name, hand in zip(names, hands):
        sums = opened_at(sums, name, hand)
    return sums


def bracket(drawing):
    """The bracket, opened crossing by crossing."""
    return opened(drawing, names_of(drawing)).get((), {})
