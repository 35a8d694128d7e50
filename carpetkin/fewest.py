"""The few movements of which a closed list is made, and the rows by which each comes of them (5.3, 5.4)."""

from carpetkin.groups import needed
from carpetkin.movements import then


def few_of(n, movements):
    listed = sorted(movements)
    return [listed[place] for place in needed(n, listed)]


# Gone through from the shortest row on: so no row comes to a movement twice,
# and none is longer than there are movements made.
def rows_to(n, movements):
    places = needed(n, movements)
    rows = {("stay", 0, 0): []}
    waiting = [("stay", 0, 0)]
    at = 0
    while at < len(waiting):
        for place in places:
            come = then(n, waiting[at], movements[place])
            if come not in rows:
                rows[come] = rows[waiting[at]] + [place]
                waiting.append(come)
        at += 1
    return rows


def row_to(n, movements, movement):
    return rows_to(n, movements)[movement]
