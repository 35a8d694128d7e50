"""Rounds of a movement, and how many carpets there are (9.1 to 9.3)."""

from carpetkin.circles import circles, parted
from carpetkin.movements import all_movements, led


def round_from(side, movement, place):
    places = [place]
    come = led(side, movement, place)
    while come != place:
        places.append(come)
        come = led(side, movement, come)
    return places


def rounds(side, movement):
    return parted(side, movement, round_from)


def times_itself(number, many):
    come = 1
    for k in range(many):
        come *= number
    return come


def count_of(side, colours):
    movements = all_movements(side)
    many = sum([times_itself(colours, len(rounds(side, movement))) for movement in movements])
    return many // len(movements)


def left_by(side, colours, wish):
    return times_itself(colours, len(circles(side, wish)))
