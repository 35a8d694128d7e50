"""Movements of a side: where they lead, done one after the other (2.1 to 2.3, 2.5)."""

WAYS = ("stay", "turn", "half", "back", "side", "flip", "cross", "other")

# Where a way leads (r, c): the first two numbers times r and c give the row,
# the last two the knot.
LEADS = {
    "stay": (1, 0, 0, 1),
    "turn": (0, 1, -1, 0),
    "half": (-1, 0, 0, -1),
    "back": (0, -1, 1, 0),
    "side": (1, 0, 0, -1),
    "flip": (-1, 0, 0, 1),
    "cross": (0, 1, 1, 0),
    "other": (0, -1, -1, 0),
}

# No two ways lead this place of the plain alike, so where it is led tells the
# way; at the places of a small side several ways would look the same.
TELLING = (1, 2)
TOLD = {
    (1, 2): "stay",
    (2, -1): "turn",
    (-1, -2): "half",
    (-2, 1): "back",
    (1, -2): "side",
    (-1, 2): "flip",
    (2, 1): "cross",
    (-2, -1): "other",
}


def is_step(side, thing):
    # True and False are ints to Python, but no whole numbers here.
    return isinstance(thing, int) and not isinstance(thing, bool) and 0 <= thing < side


def is_movement(side, thing):
    if not isinstance(thing, tuple) or len(thing) != 3:
        return False
    if not isinstance(thing[0], str) or thing[0] not in WAYS:
        return False
    return is_step(side, thing[1]) and is_step(side, thing[2])


def all_movements(side):
    movements = []
    for way in sorted(WAYS):
        for down in range(side):
            for right in range(side):
                movements.append((way, down, right))
    return movements


def place_by(way, place):
    lead = LEADS[way]
    return (lead[0] * place[0] + lead[1] * place[1], lead[2] * place[0] + lead[3] * place[1])


def led(side, movement, place):
    found = place_by(movement[0], place)
    return ((found[0] + movement[1]) % side, (found[1] + movement[2]) % side)


def way_then(one, other):
    return TOLD[place_by(other, place_by(one, TELLING))]


def then(side, one, other):
    # (0, 0) is led by the shoves alone, so where it ends is the shove of both.
    shove = led(side, other, (one[1], one[2]))
    return (way_then(one[0], other[0]), shove[0], shove[1])


def way_back(way):
    if way == "turn":
        return "back"
    if way == "back":
        return "turn"
    return way


def taken_back(side, movement):
    way = way_back(movement[0])
    shove = place_by(way, (-movement[1], -movement[2]))
    return (way, shove[0] % side, shove[1] % side)


def order_of(side, movement):
    many = 1
    come = movement
    while come != ("stay", 0, 0):
        come = then(side, come, movement)
        many += 1
    return many


def moved_row(carpet, back, r):
    side = len(carpet)
    places = [led(side, back, (r, c)) for c in range(side)]
    return "".join([carpet[place[0]][place[1]] for place in places])


def moved(carpet, movement):
    side = len(carpet)
    back = taken_back(side, movement)
    return tuple([moved_row(carpet, back, r) for r in range(side)])


def ways_table():
    table = {}
    for one in WAYS:
        for other in WAYS:
            table[(one, other)] = way_then(one, other)
    return table
