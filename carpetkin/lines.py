"""Movements, lists of movements and numbers as the desk writes and reads them (11.1)."""

from carpetkin.movements import is_movement
from carpetkin.signs import number_in


def shown_movement(movement):
    return movement[0] + "." + str(movement[1]) + "." + str(movement[2])


def shown_movements(movements):
    if not movements:
        return "-"
    return ",".join([shown_movement(movement) for movement in movements])


def written_number(word):
    return number_in(word)


def movement_of(side, word):
    words = word.split(".")
    if len(words) != 3:
        return None
    movement = (words[0], written_number(words[1]), written_number(words[2]))
    if not is_movement(side, movement):
        return None
    return movement


def movements_of(side, word):
    if word == "-":
        return []
    movements = [movement_of(side, part) for part in word.split(",")]
    if None in movements:
        return None
    return movements
