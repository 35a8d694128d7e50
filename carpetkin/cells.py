"""Cells that draw a carpet by shoves alone, and the least one (6.1 to 6.3)."""

from carpetkin.cloths import knot
from carpetkin.leaving import leaves


def is_left_by_shove(carpet, down, right):
    side = len(carpet)
    return leaves(carpet, ("stay", down % side, right % side))


def least_width(carpet):
    width = 1
    while not is_left_by_shove(carpet, 0, width):
        width += 1
    return width


def slides(carpet, height, width):
    return [slide for slide in range(width) if is_left_by_shove(carpet, height, slide)]


def least_cell(carpet):
    width = least_width(carpet)
    height = 1
    found = slides(carpet, height, width)
    while not found:
        height += 1
        found = slides(carpet, height, width)
    return (tuple([row[:width] for row in carpet[:height]]), found[0])


def drawn_knot(cell, r, c):
    rows = cell[0]
    block = r // len(rows)
    return rows[r % len(rows)][(c - cell[1] * block) % len(rows[0])]


def drawn_row(n, cell, r):
    return "".join([drawn_knot(cell, r, c) for c in range(n)])


def drawn(n, cell):
    return tuple([drawn_row(n, cell, r) for r in range(n)])


# What a cell draws is left as it is by two shoves: right by its length, and
# down by its rows with its slide. A carpet that both leave as it is, too, is
# drawn everywhere where it is drawn in the cell itself.
def is_cell(carpet, cell):
    rows = cell[0]
    if not is_left_by_shove(carpet, 0, len(rows[0])) or not is_left_by_shove(carpet, len(rows), cell[1]):
        return False
    for r, row in enumerate(rows):
        for c, colour in enumerate(row):
            if colour != knot(carpet, r, c):
                return False
    return True
