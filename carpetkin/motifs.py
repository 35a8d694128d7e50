"""Motifs: how they are written, how deep and how large they are, what they knot (3.1, 3.3 to 3.5)."""

from carpetkin.cloths import LONGEST, above, across, beside, down, shown_cloth, size_of, turned
from carpetkin.colours import dyed_two, exchanged, knots_by_colour
from carpetkin.errors import Misfit, NoName, TooWide

LYING_WAYS = ("turn", "back", "cross", "other")


def checked_size(rows, knots, row):
    if rows > LONGEST or knots > LONGEST:
        raise TooWide(row)
    return (rows, knots)


def size_beside(one, other, row):
    if one[0] != other[0]:
        raise Misfit(row)
    return checked_size(one[0], one[1] + other[1], row)


def size_above(one, other, row):
    if one[1] != other[1]:
        raise Misfit(row)
    return checked_size(one[0] + other[0], one[1], row)


# Of all parts the sizes are found ahead of the first two that are laid: a part
# that is refused is due first.
def size_of_laid(parts, known, row, lay):
    found = [part.size(known, row) for part in parts]
    come = found[0]
    for size in found[1:]:
        come = lay(come, size, row)
    return come


def cloth_of_laid(parts, known, lay):
    come = parts[0].cloth(known)
    for part in parts[1:]:
        come = lay(come, part.cloth(known))
    return come


def counts_of_laid(parts, known):
    together = {}
    for part in parts:
        for colour, many in part.counts(known).items():
            together[colour] = together.get(colour, 0) + many
    return together


def counts_times(counts, times):
    come = {}
    for colour, many in counts.items():
        come[colour] = many * times
    return come


def written_parts(parts):
    return ", ".join([part.text() for part in parts])


def put_in_all(parts, name, motif):
    return tuple([part.put(name, motif) for part in parts])


class Motif:
    def inner(self):
        return ()

    def deep(self):
        return 1 + max([part.deep() for part in self.inner()], default=0)

    def names(self):
        found = []
        for part in self.inner():
            found.extend(part.names())
        return sorted(set(found))

    def __eq__(self, other):
        return isinstance(other, Motif) and self.text() == other.text()


class Plain(Motif):
    def __init__(self, rows):
        self.rows = rows

    def text(self):
        return "[" + shown_cloth(self.rows) + "]"

    def size(self, known, row):
        return size_of(self.rows)

    def cloth(self, known):
        return self.rows

    def counts(self, known):
        return knots_by_colour(self.rows)

    def put(self, name, motif):
        return Plain(self.rows)


class Named(Motif):
    def __init__(self, name):
        self.name = name

    def text(self):
        return self.name

    def names(self):
        return [self.name]

    def size(self, known, row):
        if self.name not in known:
            raise NoName(row, self.name)
        return known[self.name]

    def cloth(self, known):
        return known[self.name]

    def counts(self, known):
        return dict(known[self.name])

    def put(self, name, motif):
        if self.name == name:
            return motif
        return Named(self.name)


class Beside(Motif):
    def __init__(self, parts):
        self.parts = parts

    def inner(self):
        return self.parts

    def text(self):
        return "beside(" + written_parts(self.parts) + ")"

    def size(self, known, row):
        return size_of_laid(self.parts, known, row, size_beside)

    def cloth(self, known):
        return cloth_of_laid(self.parts, known, beside)

    def counts(self, known):
        return counts_of_laid(self.parts, known)

    def put(self, name, motif):
        return Beside(put_in_all(self.parts, name, motif))


class Above(Motif):
    def __init__(self, parts):
        self.parts = parts

    def inner(self):
        return self.parts

    def text(self):
        return "above(" + written_parts(self.parts) + ")"

    def size(self, known, row):
        return size_of_laid(self.parts, known, row, size_above)

    def cloth(self, known):
        return cloth_of_laid(self.parts, known, above)

    def counts(self, known):
        return counts_of_laid(self.parts, known)

    def put(self, name, motif):
        return Above(put_in_all(self.parts, name, motif))


class Across(Motif):
    def __init__(self, many, part):
        self.many = many
        self.part = part

    def inner(self):
        return (self.part,)

    def text(self):
        return "across(" + str(self.many) + ", " + self.part.text() + ")"

    def size(self, known, row):
        size = self.part.size(known, row)
        return checked_size(size[0], size[1] * self.many, row)

    def cloth(self, known):
        return across(self.part.cloth(known), self.many)

    def counts(self, known):
        return counts_times(self.part.counts(known), self.many)

    def put(self, name, motif):
        return Across(self.many, self.part.put(name, motif))


class Down(Motif):
    def __init__(self, many, part):
        self.many = many
        self.part = part

    def inner(self):
        return (self.part,)

    def text(self):
        return "down(" + str(self.many) + ", " + self.part.text() + ")"

    def size(self, known, row):
        size = self.part.size(known, row)
        return checked_size(size[0] * self.many, size[1], row)

    def cloth(self, known):
        return down(self.part.cloth(known), self.many)

    def counts(self, known):
        return counts_times(self.part.counts(known), self.many)

    def put(self, name, motif):
        return Down(self.many, self.part.put(name, motif))


class Turned(Motif):
    def __init__(self, way, part):
        self.way = way
        self.part = part

    def inner(self):
        return (self.part,)

    def text(self):
        return self.way + "(" + self.part.text() + ")"

    def size(self, known, row):
        size = self.part.size(known, row)
        if self.way in LYING_WAYS:
            return (size[1], size[0])
        return size

    def cloth(self, known):
        return turned(self.part.cloth(known), self.way)

    def counts(self, known):
        return self.part.counts(known)

    def put(self, name, motif):
        return Turned(self.way, self.part.put(name, motif))


class Dyed(Motif):
    def __init__(self, one, other, part):
        self.one = one
        self.other = other
        self.part = part

    def inner(self):
        return (self.part,)

    def text(self):
        return "dye(" + self.one + ", " + self.other + ", " + self.part.text() + ")"

    def size(self, known, row):
        return self.part.size(known, row)

    def cloth(self, known):
        return dyed_two(self.part.cloth(known), self.one, self.other)

    def counts(self, known):
        come = {}
        for colour, many in self.part.counts(known).items():
            come[exchanged(colour, self.one, self.other)] = many
        return come

    def put(self, name, motif):
        return Dyed(self.one, self.other, self.part.put(name, motif))
