"""The kind of a group of movements, read from its turn, bends, mirrors and loose one (7.2 to 7.5)."""

from carpetkin.bends import BENDING, is_mirror, narrow, stand_of, wide_movements
from carpetkin.leaving import leaving


def ways_of(movements):
    return [movement[0] for movement in movements]


def turn_of(movements):
    ways = ways_of(movements)
    if "turn" in ways:
        return 4
    if "half" in ways:
        return 2
    return 1


def bends_of(movements):
    ways = ways_of(movements)
    return [way for way in BENDING if way in ways]


def listed(movements):
    return dict([(movement, True) for movement in movements])


def wide_within(n, known, way):
    return [wide for wide in wide_movements(n, way) if narrow(n, wide) in known]


def mirrors_of(n, movements):
    known = listed(movements)
    found = []
    for way in BENDING:
        mirrors = [wide for wide in wide_within(n, known, way) if is_mirror(n, wide)]
        found.extend(mirrors[:1])
    return found


def loose_of(n, movements):
    known = listed(movements)
    for way in BENDING:
        for wide in wide_within(n, known, way):
            if stand_of(n, wide) not in known:
                return wide
    return None


def kind_of_turn_1(bends, mirrors, loose):
    if not bends:
        return "p1"
    if not mirrors:
        return "pg"
    if loose is None:
        return "pm"
    return "cm"


def kind_of_turn_2(bends, mirrors, loose):
    if not bends:
        return "p2"
    if not mirrors:
        return "pgg"
    if len(mirrors) == 1:
        return "pmg"
    if loose is None:
        return "pmm"
    return "cmm"


def kind_of_turn_4(bends, mirrors):
    if not bends:
        return "p4"
    if len(mirrors) == 4:
        return "p4m"
    return "p4g"


def paper_of(n, movements):
    return (turn_of(movements), bends_of(movements), mirrors_of(n, movements), loose_of(n, movements))


def word_of(paper):
    if paper[0] == 1:
        return kind_of_turn_1(paper[1], paper[2], paper[3])
    if paper[0] == 2:
        return kind_of_turn_2(paper[1], paper[2], paper[3])
    return kind_of_turn_4(paper[1], paper[2])


def kind_of(n, movements):
    return word_of(paper_of(n, movements))


def kind(carpet):
    paper = paper_of(len(carpet), leaving(carpet))
    return (word_of(paper), paper)
