"""Carpets that are one but for a movement or a change of colours, and the nearest movement (8.2, 8.3, 8.5)."""

from carpetkin.colours import unlike
from carpetkin.errors import Unlike
from carpetkin.movements import all_movements, moved


def kin(one, other):
    if len(one) != len(other):
        return None
    for movement in all_movements(len(one)):
        if moved(one, movement) == other:
            return movement
    return None


def dyeing_to(one, other):
    news = {}
    for old, new in zip("".join(one), "".join(other)):
        if news.setdefault(old, new) != new:
            return None
    if len(set([news[old] for old in news])) != len(news):
        return None
    return sorted(news.items())


def kin_by_colours(one, other):
    if len(one) != len(other):
        return None
    for movement in all_movements(len(one)):
        dyeing = dyeing_to(moved(one, movement), other)
        if dyeing is not None:
            return (movement, dyeing)
    return None


def nearest(one, other):
    if len(one) != len(other):
        raise Unlike("carpets of unlike sides are not near")
    found = None
    for movement in all_movements(len(one)):
        places = unlike(moved(one, movement), other)
        if found is None or len(places) < len(found[1]):
            found = (movement, places)
    return found
