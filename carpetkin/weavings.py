"""Weavings of cloths: unwoven, their cost, a cloth woven, written and read (4.3, 4.4)."""

from carpetkin.cloths import LONGEST
from carpetkin.errors import NoFold, NoWeaving
from carpetkin.folds import (
    MOST_WITHIN, again_at, cheapest, cost, folded, parts_at, read_fold, shown_fold, times_at, unfolded, written_times,
)


def unwoven(weaving):
    cloth = ()
    for part in weaving:
        if part[0] == "rows":
            cloth += (unfolded(part[2]),) * part[1]
        else:
            cloth += unwoven(part[2]) * part[1]
    return cloth


def weaving_cost(weaving):
    many = 0
    for part in weaving:
        many += 1
        if part[0] == "rows":
            many += cost(part[2])
        else:
            many += weaving_cost(part[2])
    return many


def rows_of(row, many):
    return ("rows", many, folded(row))


def woven(cloth):
    prices = {}
    for row in cloth:
        if row not in prices:
            prices[row] = 1 + cost(folded(row))
    return cheapest(cloth, prices, rows_of)


def shown_part(part):
    if part[0] == "rows":
        return "[" + shown_fold(part[2]) + "]" + written_times(part[1])
    return "{" + shown_weaving(part[2]) + "}" + str(part[1])


def shown_weaving(weaving):
    return " ".join([shown_part(part) for part in weaving])


def rows_at(text, at):
    end = text.find("]", at)
    if end < 0:
        return None
    try:
        fold = read_fold(text[at:end])
    except NoFold:
        return None
    times = times_at(text, end + 1)
    if times is None:
        return None
    return (("rows", times[0], fold), times[1])


def weaving_part_at(text, at, left):
    if text.startswith("{", at):
        return again_at(text, at + 1, left, weaving_part_at, "}")
    if text.startswith("[", at):
        return rows_at(text, at + 1)
    return None


# Counted, not unwoven: a short text may write a cloth of very many rows.
def rows_in(weaving):
    many = 0
    for part in weaving:
        if part[0] == "rows":
            many += part[1]
        else:
            many += part[1] * rows_in(part[2])
    return many


def lengths_in(weaving):
    lengths = []
    for part in weaving:
        if part[0] == "rows":
            lengths.append(len(unfolded(part[2])))
        else:
            lengths.extend(lengths_in(part[2]))
    return lengths


def read_weaving(text):
    if not isinstance(text, str):
        raise NoWeaving("what is no text writes no weaving")
    found = parts_at(text, 0, MOST_WITHIN, weaving_part_at)
    if found is None or found[1] != len(text):
        raise NoWeaving("the text writes no weaving")
    if rows_in(found[0]) > LONGEST or len(set(lengths_in(found[0]))) != 1:
        raise NoWeaving("the text writes a weaving of no cloth")
    return found[0]
