"""Least forms of carpets by movements and by colours (8.1, 8.3, 8.4)."""

from carpetkin.movements import all_movements, moved

LETTERS = "abcdefghijklmnopqrstuvwxyz"


def least_form(carpet):
    return min([(moved(carpet, movement), movement) for movement in all_movements(len(carpet))])


def dyed_row(row, news):
    return "".join([news[colour] for colour in row])


def dyed(carpet, dyeing):
    news = dict(dyeing)
    return tuple([dyed_row(row, news) for row in carpet])


def dyeing_in_order(carpet):
    news = {}
    for colour in "".join(carpet):
        if colour not in news:
            news[colour] = LETTERS[len(news)]
    return sorted(news.items())


def dyed_in_order(carpet):
    dyeing = dyeing_in_order(carpet)
    return (dyed(carpet, dyeing), dyeing)


def moved_and_dyed(carpet, movement):
    told = dyed_in_order(moved(carpet, movement))
    return (told[0], movement, told[1])


def form_by_colours(carpet):
    return min([moved_and_dyed(carpet, movement) for movement in all_movements(len(carpet))])
