"""The movements that leave a carpet as it is (5.1, 5.2)."""

from carpetkin.cloths import knot
from carpetkin.movements import all_movements, led, taken_back


def unlike_at(carpet, movement):
    side = len(carpet)
    back = taken_back(side, movement)
    for r in range(side):
        for c in range(side):
            place = led(side, back, (r, c))
            if knot(carpet, r, c) != knot(carpet, place[0], place[1]):
                return (r, c)
    return None


def leaves(carpet, movement):
    return unlike_at(carpet, movement) is None


def leaving(carpet):
    return [movement for movement in all_movements(len(carpet)) if leaves(carpet, movement)]
