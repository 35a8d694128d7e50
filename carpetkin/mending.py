"""Carpets mended to a wish with the fewest knots changed (10.1, 10.2, 10.4)."""

from carpetkin.circles import circles, coloured
from carpetkin.cloths import knot
from carpetkin.colours import knots_by_colour, unlike
from carpetkin.errors import NoWish, Unlike
from carpetkin.leaving import leaves


def knots_at(carpet, places):
    return "".join([knot(carpet, place[0], place[1]) for place in places])


# All colours that are had by the most places, the least first.
def best_colours(many_by_colour):
    most = max([many_by_colour[colour] for colour in many_by_colour])
    return sorted([colour for colour in many_by_colour if many_by_colour[colour] == most])


def chosen_colour(many_by_colour, liked):
    best = best_colours(many_by_colour)
    if liked in best:
        return liked
    return best[0]


def mended_circle(carpet, places, liked):
    many_by_colour = knots_by_colour((knots_at(carpet, places),))
    colour = chosen_colour(many_by_colour, liked)
    return (places, colour, many_by_colour[colour])


def carpet_of_paper(side, paper):
    colours = {}
    for circle in paper:
        for place in circle[0]:
            colours[place] = circle[1]
    return coloured(side, colours)


def told_of_paper(carpet, paper):
    come = carpet_of_paper(len(carpet), paper)
    return (come, unlike(carpet, come), paper)


def mended(carpet, wish):
    found = circles(len(carpet), wish)
    return told_of_paper(carpet, [mended_circle(carpet, places, None) for places in found])


def check_wish(other, wish):
    for place, movement in enumerate(wish):
        if not leaves(other, movement):
            raise NoWish(place)


# The wish leaves the other carpet as it is, so that one has one colour in each
# circle, the one at its first place.
def mended_towards(carpet, other, wish):
    if len(carpet) != len(other):
        raise Unlike("a carpet is not mended towards one of another side")
    check_wish(other, wish)
    found = circles(len(carpet), wish)
    return told_of_paper(carpet, [mended_circle(carpet, places, knots_at(other, places[:1])) for places in found])
