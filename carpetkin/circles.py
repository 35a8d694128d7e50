"""Circles of places that movements lead to one another, and carpets grown of seeds (6.4)."""

from carpetkin.cloths import knot
from carpetkin.leaving import leaving
from carpetkin.movements import led


# Some row of a movement takes it back: so wherever rows lead from a place,
# rows lead back from there, and going on alone finds the whole circle.
def circle_from(n, movements, place):
    known = {place: True}
    waiting = [place]
    at = 0
    while at < len(waiting):
        for movement in movements:
            come = led(n, movement, waiting[at])
            if come not in known:
                known[come] = True
                waiting.append(come)
        at += 1
    return sorted(waiting)


# Parts all places into lists, each found from its first place on; leading is
# what leads them, places_from finds a list.
def parted(n, leading, places_from):
    told = []
    known = {}
    for r in range(n):
        for c in range(n):
            if (r, c) not in known:
                places = places_from(n, leading, (r, c))
                told.append(places)
                for place in places:
                    known[place] = True
    return told


def circles(n, movements):
    return parted(n, movements, circle_from)


def seeds(carpet):
    found = circles(len(carpet), leaving(carpet))
    return [(circle[0], knot(carpet, circle[0][0], circle[0][1])) for circle in found]


def coloured_row(n, colours, r):
    return "".join([colours[(r, c)] for c in range(n)])


def coloured(n, colours):
    return tuple([coloured_row(n, colours, r) for r in range(n)])


def grown(n, movements, some):
    colours = {}
    for seed in some:
        for place in circle_from(n, movements, seed[0]):
            colours[place] = seed[1]
    return coloured(n, colours)
