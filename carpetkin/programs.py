"""Motifs and programs, read from texts and written as them (3.1, 3.2)."""

from carpetkin.cloths import read_cloth
from carpetkin.errors import NoCloth, NoText
from carpetkin.motifs import Above, Across, Beside, Down, Dyed, Named, Plain, Turned
from carpetkin.signs import figures_end, is_small_word, letters_end, number_between

WORDS = ("beside", "above", "across", "down", "turn", "half", "back", "side", "flip", "cross", "other", "dye")
TURNING = ("turn", "half", "back", "side", "flip", "cross", "other")
DEEPEST = 8
MOST_PARTS = 6
MOST_TIMES = 24
MOST_ROWS = 40
LONGEST_ROW = 400


def is_name(word):
    return is_small_word(word) and word not in WORDS


# Each reader below tells what it read and the place behind it, or None where
# the text writes no such thing there; left is how deep what it reads may be.
def plain_at(text, at):
    end = text.find("]", at)
    if end < 0:
        return None
    try:
        rows = read_cloth(text[at + 1:end])
    except NoCloth:
        return None
    return (Plain(rows), end + 1)


def parts_at(text, at, left):
    parts = []
    while True:
        found = motif_at(text, at, left)
        if found is None:
            return None
        parts.append(found[0])
        if not text.startswith(", ", found[1]):
            return (tuple(parts), found[1])
        at = found[1] + 2


def laid_at(text, word, at, left):
    found = parts_at(text, at, left)
    if found is None or not text.startswith(")", found[1]):
        return None
    if not 2 <= len(found[0]) <= MOST_PARTS:
        return None
    if word == "beside":
        return (Beside(found[0]), found[1] + 1)
    return (Above(found[0]), found[1] + 1)


def last_part_at(text, at, left):
    found = motif_at(text, at, left)
    if found is None or not text.startswith(")", found[1]):
        return None
    return (found[0], found[1] + 1)


def times_end(text, at):
    end = figures_end(text, at)
    if number_between(text[at:end], 1, MOST_TIMES) is None or not text.startswith(", ", end):
        return None
    return end


def repeated_at(text, word, at, left):
    end = times_end(text, at)
    if end is None:
        return None
    found = last_part_at(text, end + 2, left)
    if found is None:
        return None
    many = int(text[at:end])
    if word == "across":
        return (Across(many, found[0]), found[1])
    return (Down(many, found[0]), found[1])


def turned_at(text, word, at, left):
    found = last_part_at(text, at, left)
    if found is None:
        return None
    return (Turned(word, found[0]), found[1])


def is_colour_at(text, at):
    return letters_end(text, at) == at + 1 and text.startswith(", ", at + 1)


def dyed_at(text, at, left):
    if not is_colour_at(text, at) or not is_colour_at(text, at + 3):
        return None
    found = last_part_at(text, at + 6, left)
    if found is None:
        return None
    return (Dyed(text[at], text[at + 3], found[0]), found[1])


def made_of_parts_at(text, word, at, left):
    if word == "beside" or word == "above":
        return laid_at(text, word, at, left)
    if word == "across" or word == "down":
        return repeated_at(text, word, at, left)
    if word in TURNING:
        return turned_at(text, word, at, left)
    if word == "dye":
        return dyed_at(text, at, left)
    return None


def motif_at(text, at, left):
    if left == 0:
        return None
    if text.startswith("[", at):
        return plain_at(text, at)
    end = letters_end(text, at)
    word = text[at:end]
    if text.startswith("(", end):
        return made_of_parts_at(text, word, end + 1, left - 1)
    if is_name(word):
        return (Named(word), end)
    return None


def read_motif(text):
    if not isinstance(text, str):
        return None
    found = motif_at(text, 0, DEEPEST)
    if found is None or found[1] != len(text):
        return None
    return found[0]


def let_of(left, motif):
    if not is_name(left):
        return None
    return ("let", left, motif)


def again_of(left, motif):
    words = left.split(" ")
    if len(words) != 2 or not is_name(words[1]):
        return None
    many = number_between(words[0], 1, MOST_TIMES)
    if many is None:
        return None
    return ("again", many, words[1], motif)


def telling_row(word, rest):
    halves = rest.partition(" = ")
    motif = read_motif(halves[2])
    if motif is None:
        return None
    if word == "let":
        return let_of(halves[0], motif)
    return again_of(halves[0], motif)


def knot_row(rest):
    motif = read_motif(rest)
    if motif is None:
        return None
    return ("knot", motif)


def row_of(text):
    if len(text) > LONGEST_ROW:
        return None
    halves = text.partition(" ")
    if halves[0] == "let" or halves[0] == "again":
        return telling_row(halves[0], halves[2])
    if halves[0] == "knot":
        return knot_row(halves[2])
    return None


def read(text):
    if not isinstance(text, str):
        raise NoText(0)
    texts = text.split("\n")
    program = []
    for place, written in enumerate(texts):
        row = row_of(written)
        if place >= MOST_ROWS or row is None:
            raise NoText(place)
        if (row[0] == "knot") != (place == len(texts) - 1):
            raise NoText(place)
        program.append(row)
    return program


def shown_row(row):
    if row[0] == "let":
        return "let " + row[1] + " = " + row[2].text()
    if row[0] == "again":
        return "again " + str(row[1]) + " " + row[2] + " = " + row[3].text()
    return "knot " + row[1].text()


def shown(program):
    return "\n".join([shown_row(row) for row in program])
