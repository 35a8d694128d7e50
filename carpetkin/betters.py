"""The largest group of movements that a carpet can be given by few changed knots (10.3)."""

from carpetkin.circles import circles
from carpetkin.errors import TooLarge
from carpetkin.fewest import few_of
from carpetkin.mending import mended
from carpetkin.movements import all_movements, led

GREATEST_BETTERED = 3


def circles_key(found):
    return tuple([tuple(circle) for circle in found])


def changes_to(carpet, wish):
    return len(mended(carpet, wish)[1])


# One wish for each parting of the places into circles that is mended by so
# many changed knots. Circles that grow together never cost less: so what is
# mended by few is found by way of what is mended by few.
def wishes_within(carpet, most):
    side = len(carpet)
    wishes = [[]]
    known = {circles_key(circles(side, [])): True}
    at = 0
    while at < len(wishes):
        for movement in all_movements(side):
            wish = wishes[at] + [movement]
            key = circles_key(circles(side, wish))
            if key not in known:
                known[key] = True
                if changes_to(carpet, wish) <= most:
                    wishes.append(wish)
        at += 1
    return wishes


def is_within(side, movement, circle_of):
    return all([circle_of[led(side, movement, place)] == circle_of[place] for place in circle_of])


# The largest group with these circles: it costs no more than a smaller one.
def all_within(side, wish):
    circle_of = {}
    for number, circle in enumerate(circles(side, wish)):
        for place in circle:
            circle_of[place] = number
    return [movement for movement in all_movements(side) if is_within(side, movement, circle_of)]


def best_group(carpet, most):
    best = []
    fewest = 0
    for wish in wishes_within(carpet, most):
        group = all_within(len(carpet), wish)
        changes = changes_to(carpet, wish)
        if len(group) > len(best) or len(group) == len(best) and changes < fewest:
            best = group
            fewest = changes
    return best


# At sides 1 to 3 the few of each such group are three at most.
def bettered(carpet, most):
    side = len(carpet)
    if side > GREATEST_BETTERED:
        raise TooLarge(side * side)
    group = best_group(carpet, most)
    few = few_of(side, group)
    return (few, len(group), mended(carpet, few))
