"""A plain reading of motifs and programs, written apart from the package, to hold it against."""

import random
import re

WAYS = ("turn", "half", "back", "side", "flip", "cross", "other")


class Refused(Exception):
    pass


def quarter(grid):
    return [[grid[len(grid) - 1 - c][r] for c in range(len(grid))] for r in range(len(grid[0]))]


def columns(grid):
    return [list(column) for column in zip(*grid)]


def turned(grid, way):
    if way == "cross":
        return columns(grid)
    if way == "other":
        return turned(columns(grid), "half")
    if way == "side":
        return [row[::-1] for row in grid]
    if way == "flip":
        return grid[::-1]
    for k in range({"turn": 1, "half": 2, "back": 3}[way]):
        grid = quarter(grid)
    return grid


def checked(grid, row):
    if len(grid) > 24 or len(grid[0]) > 24:
        raise Refused("TooWide", row)
    return grid


def laid(one, other, word, row):
    if word == "beside":
        if len(one) != len(other):
            raise Refused("Misfit", row)
        return checked([left + right for left, right in zip(one, other)], row)
    if len(one[0]) != len(other[0]):
        raise Refused("Misfit", row)
    return checked(one + other, row)


def split_parts(text):
    parts = []
    deep = 0
    start = 0
    for k, sign in enumerate(text):
        deep += (sign in "([") - (sign in ")]")
        if sign == "," and deep == 0:
            parts.append(text[start:k])
            start = k + 2
    return parts + [text[start:]]


def grid_of(text, known, row):
    if text[0] == "[":
        return [list(part) for part in text[1:-1].split("/")]
    if re.fullmatch("[a-z]+", text):
        if text not in known:
            raise Refused("NoName", row, text)
        return known[text]
    word, rest = text[:-1].split("(", 1)
    parts = split_parts(rest)
    if word in ("beside", "above"):
        grids = [grid_of(part, known, row) for part in parts]
        for k in range(1, len(grids)):
            grids[0] = laid(grids[0], grids[k], word, row)
        return grids[0]
    grid = grid_of(parts[-1], known, row)
    if word == "across":
        return checked([line * int(parts[0]) for line in grid], row)
    if word == "down":
        return checked(grid * int(parts[0]), row)
    if word == "dye":
        pair = {parts[0]: parts[1], parts[1]: parts[0]}
        return [[pair.get(knot, knot) for knot in line] for line in grid]
    return turned(grid, word)


def cloth_of(grid):
    return tuple("".join(line) for line in grid)


def cloths_of(text):
    """All cloths of a program's text in order, or Refused with its name and fields."""
    known = {}
    cloths = []
    for row, line in enumerate(text.split("\n")):
        head, motif = line.split(" = ") if " = " in line else ("knot", line[5:])
        words = head.split(" ")
        if words[0] == "again" and words[2] not in known:
            raise Refused("NoName", row, words[2])
        for k in range(int(words[1]) if words[0] == "again" else 1):
            grid = grid_of(motif, known, row)
            cloths.append(cloth_of(grid))
            if words[0] != "knot":
                known[words[-1]] = grid
    return cloths


def any_motif(chance, names, deep):
    kind = chance.randrange(9) if deep > 1 else chance.randrange(2)
    if kind == 0 and names:
        return chance.choice(names)
    if kind <= 1:
        rows, knots = chance.randrange(1, 4), chance.randrange(1, 4)
        return "[" + "/".join("".join(chance.choice("abc") for c in range(knots)) for r in range(rows)) + "]"
    part = any_motif(chance, names, deep - 1)
    if kind <= 3:
        parts = [part] + [chance.choice((part, any_motif(chance, names, deep - 1))) for k in range(chance.randrange(1,
                                                                                                                    4))]
        return chance.choice(("beside", "above")) + "(" + ", ".join(parts) + ")"
    if kind <= 5:
        return f"{chance.choice(('across', 'down'))}({chance.randrange(1, 5)}, {part})"
    if kind <= 7:
        return f"{chance.choice(WAYS)}({part})"
    return f"dye({chance.choice('abcd')}, {chance.choice('abcd')}, {part})"


def any_program(chance):
    names = []
    rows = []
    for k in range(chance.randrange(5)):
        motif = any_motif(chance, names if chance.randrange(9) else names + ["none"], 3)
        name = chance.choice(("rose", "let", "again", "knot", "stay", "x"))
        if names and chance.randrange(3) == 0:
            rows.append(f"again {chance.randrange(1, 4)} {chance.choice(names)} = {motif}")
        else:
            rows.append(f"let {name} = {motif}")
            names.append(name)
    return "\n".join(rows + ["knot " + any_motif(chance, names, 4)])


def many_programs(many):
    chance = random.Random(11)
    texts = []
    while len(texts) < many:
        text = any_program(chance)
        if max(len(row) for row in text.split("\n")) <= 400:
            texts.append(text)
    return texts
