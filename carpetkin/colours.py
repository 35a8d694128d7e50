"""The colours of cloths: exchanged, told, counted, compared (1.6)."""

from carpetkin.cloths import size_of
from carpetkin.errors import NoFit


def exchanged(colour, one, other):
    if colour == one:
        return other
    if colour == other:
        return one
    return colour


def dyed_row(row, one, other):
    return "".join([exchanged(colour, one, other) for colour in row])


def dyed_two(cloth, one, other):
    return tuple([dyed_row(row, one, other) for row in cloth])


def colours_of(cloth):
    return sorted(set("".join(cloth)))


def knots_by_colour(cloth):
    knots = "".join(cloth)
    many = {}
    for colour in colours_of(cloth):
        many[colour] = knots.count(colour)
    return many


def unlike(one, other):
    if size_of(one) != size_of(other):
        raise NoFit("cloths of unlike sizes have no places in common to compare")
    places = []
    for r, row in enumerate(one):
        for c, colour in enumerate(row):
            if colour != other[r][c]:
                places.append((r, c))
    return places
