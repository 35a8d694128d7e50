"""Folds of lines: unfolded, their cost, a line folded, written and read (4.1, 4.2, 4.4)."""

from carpetkin.cloths import LONGEST
from carpetkin.errors import NoFold
from carpetkin.signs import figures_end, number_between

MOST_WITHIN = 12


def unfolded_part(part):
    if part[0] == "run":
        return part[1] * part[2]
    return unfolded(part[2]) * part[1]


def unfolded(fold):
    return "".join([unfolded_part(part) for part in fold])


def cost(fold):
    many = 0
    for part in fold:
        many += 1
        if part[0] == "again":
            many += cost(part[2])
    return many


def is_alike(things):
    return all([thing == things[0] for thing in things])


def is_repeat(things, width):
    return len(things) % width == 0 and things == things[:width] * (len(things) // width)


# Lines and cloths are made cheap alike: a stretch of things is one part of
# things alike, or one again of a shorter stretch, or two stretches behind one
# another. A choice is a tuple (cost, what it is, its width or its middle).
def choices(things, prices, best, start, end):
    stretch = things[start:end]
    found = []
    if is_alike(stretch):
        found.append((prices[stretch[0]], "alike", end - start))
    for width in range(1, (end - start) // 2 + 1):
        if is_repeat(stretch, width):
            found.append((1 + best[(start, start + width)][0], "again", width))
    for middle in range(start + 1, end):
        found.append((best[(start, middle)][0] + best[(middle, end)][0], "split", middle))
    return found


def best_choices(things, prices):
    best = {}
    for width in range(1, len(things) + 1):
        for start in range(len(things) - width + 1):
            end = start + width
            best[(start, end)] = min(choices(things, prices, best, start, end))
    return best


def parts_between(things, best, part_of, start, end):
    choice = best[(start, end)]
    if choice[1] == "alike":
        return [part_of(things[start], end - start)]
    if choice[1] == "again":
        inner = parts_between(things, best, part_of, start, start + choice[2])
        return [("again", (end - start) // choice[2], inner)]
    left = parts_between(things, best, part_of, start, choice[2])
    return left + parts_between(things, best, part_of, choice[2], end)


# prices tells for each thing what a part of it alone costs, part_of makes such a part.
def cheapest(things, prices, part_of):
    best = best_choices(things, prices)
    return parts_between(things, best, part_of, 0, len(things))


def run_of(colour, many):
    return ("run", colour, many)


def folded(line):
    prices = dict([(colour, 1) for colour in line])
    return cheapest(line, prices, run_of)


def written_times(many):
    if many == 1:
        return ""
    return str(many)


def shown_part(part):
    if part[0] == "run":
        return part[1] + written_times(part[2])
    return "(" + shown_fold(part[2]) + ")" + str(part[1])


def shown_fold(fold):
    return " ".join([shown_part(part) for part in fold])


# Each reader below tells what it read and the place behind it, or None where
# the text writes no such thing there; left is how many agains may stand within
# one another.
def times_at(text, at):
    end = figures_end(text, at)
    if end == at:
        return (1, end)
    many = number_between(text[at:end], 2, LONGEST)
    if many is None:
        return None
    return (many, end)


def parts_at(text, at, left, part_at):
    parts = []
    while True:
        found = part_at(text, at, left)
        if found is None:
            return None
        parts.append(found[0])
        if not text.startswith(" ", found[1]):
            return (parts, found[1])
        at = found[1] + 1


def again_at(text, at, left, part_at, closing):
    if left == 0:
        return None
    found = parts_at(text, at, left - 1, part_at)
    if found is None or not text.startswith(closing, found[1]):
        return None
    times = times_at(text, found[1] + 1)
    if times is None or times[0] == 1:
        return None
    return (("again", times[0], found[0]), times[1])


def fold_part_at(text, at, left):
    if text.startswith("(", at):
        return again_at(text, at + 1, left, fold_part_at, ")")
    if not "a" <= text[at:at + 1] <= "z":
        return None
    times = times_at(text, at + 1)
    if times is None:
        return None
    return (run_of(text[at], times[0]), times[1])


# Counted, not unfolded: a short text may write a line of very many knots.
def knots_in(fold):
    many = 0
    for part in fold:
        if part[0] == "run":
            many += part[2]
        else:
            many += part[1] * knots_in(part[2])
    return many


def read_fold(text):
    if not isinstance(text, str):
        raise NoFold("what is no text writes no fold")
    found = parts_at(text, 0, MOST_WITHIN, fold_part_at)
    if found is None or found[1] != len(text) or knots_in(found[0]) > LONGEST:
        raise NoFold("the text writes no fold of a line")
    return found[0]
