"""Members put together: by pairs, where what hangs together with a third hangs together, or one of each."""


def grouped(members, pairs):
    """Sorted list of sorted lists: members that a pair joins, or that are each joined with a third."""
    group_of = {}
    for member in members:
        group_of[member] = [member]
    for one, other in pairs:
        if other not in group_of[one]:
            joined = group_of[one] + group_of[other]
            for member in joined:
                group_of[member] = joined
    # A group is told once, by its least member.
    return sorted([sorted(group_of[member]) for member in members if min(group_of[member]) == member])


def together(groups, one, other):
    """Whether one and other are in one of the groups."""
    return any([one in group and other in group for group in groups])


def one_of_each(lists):
    """All lists of one member of each of the lists, in the order that the lists have."""
    picked = [[]]
    for members in lists:
        longer = []
        for ahead in picked:
            longer.extend([ahead + [member] for member in members])
        picked = longer
    return picked
