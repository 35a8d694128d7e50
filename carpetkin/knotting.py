"""Programs knotted; their sizes and their counts found without knotting (3.3, 3.4)."""

from carpetkin.errors import NoName


def size_step(motif, known, row):
    return motif.size(known, row)


def cloth_step(motif, known, row):
    return motif.cloth(known)


def counts_step(motif, known, row):
    return motif.counts(known)


def times_of(row):
    if row[0] == "again":
        return row[1]
    return 1


# Sizes, cloths and counts go through a program alike: what the names knot then
# is known, a step tells of a motif and of these what it comes to.
def gone_through(program, step):
    known = {}
    told = []
    for place, row in enumerate(program):
        if row[0] == "again" and row[2] not in known:
            raise NoName(place, row[2])
        for k in range(times_of(row)):
            come = step(row[-1], known, place)
            told.append(come)
            if row[0] != "knot":
                known[row[-2]] = come
    return told


def sizes(program):
    return gone_through(program, size_step)


# The sizes are found first of all, for what they refuse.
def last_told(program, step):
    sizes(program)
    return gone_through(program, step)[-1]


def knotted(program):
    return last_told(program, cloth_step)


def counted(program):
    return last_told(program, counts_step)
