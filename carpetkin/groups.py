"""What is made of a list of movements (2.4)."""

from carpetkin.movements import then


def made_of(side, few):
    known = {("stay", 0, 0): True}
    waiting = [("stay", 0, 0)]
    at = 0
    while at < len(waiting):
        for movement in few:
            come = then(side, waiting[at], movement)
            if come not in known:
                known[come] = True
                waiting.append(come)
        at += 1
    return known


# What is made by those ahead of it makes nothing new: without it a long list
# costs no more than the few that it needs.
def needed(side, movements):
    places = []
    few = []
    known = made_of(side, few)
    for place, movement in enumerate(movements):
        if movement not in known:
            places.append(place)
            few.append(movement)
            known = made_of(side, few)
    return places


def made(side, movements):
    few = [movements[place] for place in needed(side, movements)]
    return sorted(made_of(side, few))
