"""All least forms of a side and few colours, and their numbers (9.4)."""

from carpetkin.colours import colours_of
from carpetkin.errors import NoColour, NoNumber, TooLarge
from carpetkin.forms import LETTERS, least_form
from carpetkin.movements import all_movements, is_step, moved
from carpetkin.rounds import times_itself

MOST_CARPETS = 600


def longer(starts, ends):
    found = []
    for start in starts:
        for end in ends:
            found.append(start + end)
    return found


# Made in their order: each stands ahead of all that are greater.
def all_carpets(side, colours):
    rows = [""]
    carpets = [()]
    for k in range(side):
        rows = longer(rows, LETTERS[:colours])
    for k in range(side):
        carpets = longer(carpets, [(row,) for row in rows])
    return carpets


def check_few(side, colours):
    many = times_itself(colours, side * side)
    if many > MOST_CARPETS:
        raise TooLarge(many)


# The first of kin carpets that is met is their least form; the others are known then.
def all_forms(side, colours):
    check_few(side, colours)
    movements = all_movements(side)
    forms = []
    known = {}
    for carpet in all_carpets(side, colours):
        if carpet not in known:
            forms.append(carpet)
            for movement in movements:
                known[moved(carpet, movement)] = True
    return forms


def number_of(carpet, colours):
    for colour in colours_of(carpet):
        if colour not in LETTERS[:colours]:
            raise NoColour(colour)
    forms = all_forms(len(carpet), colours)
    return forms.index(least_form(carpet)[0])


def carpet_of(side, colours, number):
    forms = all_forms(side, colours)
    if not is_step(len(forms), number):
        raise NoNumber("no form has this number")
    return forms[number]
