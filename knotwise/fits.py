"""Where a move fits, and the moves that add no crossing (points 17 and 21)."""

from knotwise.drawings import hand_of, names_of, next_of


def neighbours(behind, one, other):
    """Whether one of two passings is next behind the other, either first."""
    return behind[one] == other or behind[other] == one


def uncurl_fits(drawing, name):
    """Whether the two passings of the crossing are neighbours."""
    return neighbours(next_of(drawing), (name, 0), (name, 1))


def part_fits(drawing, name, second):
    """Whether the two crossings lie as a lay puts them; one crossing has never unlike hands with itself."""
    if hand_of(drawing, name) == hand_of(drawing, second):
        return False
    behind = next_of(drawing)
    return neighbours(behind, (name, 0), (second, 0)) and neighbours(behind, (name, 1), (second, 1))


def in_turn(one, other, turn):
    """The two passings as they follow one another: as they are for turn 1, else the other way about."""
    if turn == 1:
        return (one, other)
    return (other, one)


def slide_pairs(drawing, name, second, third, turn):
    """The three pairs of passings that a slide changes, in each the one that must be next behind the other last."""
    first_hand = hand_of(drawing, name)
    second_hand = hand_of(drawing, second)
    third_hand = hand_of(drawing, third)
    return [
        in_turn((name, 0), (second, 0), turn),
        in_turn((name, 1), (third, 0), turn * second_hand * third_hand),
        in_turn((second, 1), (third, 1), turn * first_hand * third_hand),
    ]


def slide_fits(drawing, name, second, third, turn):
    """Whether the three crossings are unlike and all their three pairs are neighbours the right way about."""
    if second == name or third in (name, second):
        return False
    behind = next_of(drawing)
    return all([behind[one] == other for one, other in slide_pairs(drawing, name, second, third, turn)])


def lessening(drawing):
    """The sorted moves that fit and add no crossing."""
    return sorted(parts_in(drawing) + slides_in(drawing) + uncurls_in(drawing))


def uncurls_in(drawing):
    """All uncurls that fit."""
    return [("uncurl", name) for name in names_of(drawing) if uncurl_fits(drawing, name)]


def overs_in_turn(drawing):
    """The pairs of crossings of which the second's over passing is next behind the first's."""
    behind = next_of(drawing)
    pairs = []
    for name in names_of(drawing):
        after = behind[(name, 0)]
        if after[1] == 0:
            pairs.append((name, after[0]))
    return pairs


def parts_in(drawing):
    """All parts that fit, each with the lesser name first."""
    pairs = sorted(set([(min(pair), max(pair)) for pair in overs_in_turn(drawing)]))
    return [("part", name, second) for name, second in pairs if part_fits(drawing, name, second)]


def slides_in(drawing):
    """All slides that fit."""
    slides = []
    for one, other in overs_in_turn(drawing):
        for third in names_of(drawing):
            if slide_fits(drawing, one, other, third, 1):
                slides.append(("slide", one, other, third, 1))
            if slide_fits(drawing, other, one, third, -1):
                slides.append(("slide", other, one, third, -1))
    return slides
