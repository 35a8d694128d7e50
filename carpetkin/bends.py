"""Wide movements with a bending way: mirrors, and their stands (7.1, 7.2)."""

BENDING = ("cross", "flip", "other", "side")


def is_mirror(n, wide):
    way = wide[0]
    if way == "side":
        return wide[1] == 0
    if way == "flip":
        return wide[2] == 0
    if way == "cross":
        return wide[1] + wide[2] == 0 or wide[1] + wide[2] == 2 * n
    return way == "other" and wide[1] == wide[2]


def slanted_stand(n, wide):
    if (wide[1] + wide[2]) % 2 == 1:
        return None
    if wide[0] == "cross":
        half = (wide[1] - wide[2]) // 2
        return ("cross", half % n, -half % n)
    half = (wide[1] + wide[2]) // 2
    return ("other", half % n, half % n)


def stand_of(n, wide):
    if wide[0] == "side":
        return ("side", 0, wide[2] % n)
    if wide[0] == "flip":
        return ("flip", wide[1] % n, 0)
    return slanted_stand(n, wide)


def wide_movements(n, way):
    found = []
    for down in range(2 * n):
        for right in range(2 * n):
            found.append((way, down, right))
    return found


def narrow(n, wide):
    return (wide[0], wide[1] % n, wide[2] % n)
