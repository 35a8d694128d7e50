"""Cloths and carpets: what they are, laid together, written, turned (1.1 to 1.5)."""

from carpetkin.errors import NoCloth, NoFit, TooBig

LONGEST = 24
GREATEST_SIDE = 8

# Each way as steps that are easy to see on a cloth: read by columns, each row
# from the right, the rows from below.
STEPS = {
    "stay": (),
    "turn": ("cross", "side"),
    "half": ("side", "flip"),
    "back": ("cross", "flip"),
    "side": ("side",),
    "flip": ("flip",),
    "cross": ("cross",),
    "other": ("cross", "side", "flip"),
}


def is_row(thing):
    if not isinstance(thing, str) or not 1 <= len(thing) <= LONGEST:
        return False
    return all(["a" <= sign <= "z" for sign in thing])


def is_cloth(thing):
    if not isinstance(thing, tuple) or not 1 <= len(thing) <= LONGEST:
        return False
    if not all([is_row(row) for row in thing]):
        return False
    return all([len(row) == len(thing[0]) for row in thing])


def is_carpet(thing):
    return is_cloth(thing) and len(thing) == len(thing[0]) and len(thing) <= GREATEST_SIDE


def size_of(cloth):
    return (len(cloth), len(cloth[0]))


def check_size(rows, knots):
    if rows > LONGEST or knots > LONGEST:
        raise TooBig(f"{rows} rows of {knots} knots are too many")


def beside(one, other):
    if len(one) != len(other):
        raise NoFit("cloths beside one another need as many rows")
    check_size(len(one), len(one[0]) + len(other[0]))
    return tuple([left + right for left, right in zip(one, other)])


def above(one, other):
    if len(one[0]) != len(other[0]):
        raise NoFit("cloths above one another need rows as long")
    check_size(len(one) + len(other), len(one[0]))
    return one + other


def across(cloth, many):
    check_size(len(cloth), len(cloth[0]) * many)
    return tuple([row * many for row in cloth])


def down(cloth, many):
    check_size(len(cloth) * many, len(cloth[0]))
    return cloth * many


def knot(carpet, r, c):
    side = len(carpet)
    return carpet[r % side][c % side]


def row_from(carpet, r, c, knots):
    return "".join([knot(carpet, r, c + k) for k in range(knots)])


def stretch(carpet, place, rows, knots):
    return tuple([row_from(carpet, place[0] + k, place[1], knots) for k in range(rows)])


def read_cloth(text):
    if not isinstance(text, str):
        raise NoCloth("what is no text writes no cloth")
    cloth = tuple(text.split("/"))
    if not is_cloth(cloth):
        raise NoCloth("the text writes no cloth")
    return cloth


def shown_cloth(cloth):
    return "/".join(cloth)


def column(cloth, c):
    return "".join([row[c] for row in cloth])


def by_columns(cloth):
    return tuple([column(cloth, c) for c in range(len(cloth[0]))])


def from_the_right(cloth):
    return tuple(["".join(reversed(row)) for row in cloth])


def from_below(cloth):
    return tuple(reversed(cloth))


def stepped(cloth, step):
    if step == "cross":
        return by_columns(cloth)
    if step == "side":
        return from_the_right(cloth)
    return from_below(cloth)


def turned(cloth, way):
    come = cloth
    for step in STEPS[way]:
        come = stepped(come, step)
    return come
