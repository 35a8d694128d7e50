"""The desk: rows told one at a time, each answered with a text (11.1 to 11.3)."""

from carpetkin.betters import bettered
from carpetkin.cells import least_cell
from carpetkin.cloths import is_carpet, read_cloth, shown_cloth, size_of
from carpetkin.errors import NoCarpet, NoCloth, NoRow, Nobody
from carpetkin.fewest import few_of
from carpetkin.kin import kin, kin_by_colours, nearest
from carpetkin.kinds import kind
from carpetkin.knotting import knotted
from carpetkin.leaving import leaving
from carpetkin.lines import movements_of, shown_movement, shown_movements
from carpetkin.mending import mended
from carpetkin.numbers import carpet_of, number_of
from carpetkin.programs import read
from carpetkin.rounds import count_of
from carpetkin.signs import is_small_word, number_between
from carpetkin.weavings import shown_weaving, weaving_cost, woven

# What stands behind each first word: "name" asks for a cloth by that name,
# "new" is a name that needs none yet.
FORMS = {
    "show": ("name",),
    "weave": ("name",),
    "cost": ("name",),
    "leaves": ("name",),
    "few": ("name",),
    "kind": ("name",),
    "cell": ("name",),
    "kin": ("name", "name"),
    "dyekin": ("name", "name"),
    "near": ("name", "name"),
    "number": ("name", "colours"),
    "carpet": ("new", "side", "colours", "number"),
    "count": ("side", "colours"),
    "mend": ("name", "wish"),
    "better": ("name", "most"),
    "knot": ("new", "text"),
    "lay": ("new", "cloth"),
}
BOUNDS = {"side": (1, 8), "colours": (1, 26), "number": (0, 9999), "most": (0, 9)}
WITH_ALL_THAT_FOLLOWS = ("knot", "lay")
OF_ANY_CLOTH = ("show", "weave", "cost")
MOST_WISHED = 12


def words_of(row):
    words = row.split(" ")
    if words[0] in WITH_ALL_THAT_FOLLOWS:
        return words[:2] + [" ".join(words[2:])] if len(words) > 2 else words
    return words


def cloth_or_none(word):
    try:
        cloth = read_cloth(word)
    except NoCloth:
        return None
    return cloth


# None where the word is none of its sort. A wish is looked at when the side of
# its carpet is known.
def value_of(sort, word):
    if sort == "text":
        return word
    if sort == "cloth":
        return cloth_or_none(word)
    if sort == "wish":
        return word if word != "" else None
    if sort in BOUNDS:
        return number_between(word, BOUNDS[sort][0], BOUNDS[sort][1])
    return word if is_small_word(word) else None


def values_of(row):
    if not isinstance(row, str) or "\n" in row:
        raise NoRow("a row is a text without a line feed")
    words = words_of(row)
    if words[0] not in FORMS or len(words) != 1 + len(FORMS[words[0]]):
        raise NoRow("no row is of these words")
    values = [value_of(sort, word) for sort, word in zip(FORMS[words[0]], words[1:])]
    if None in values:
        raise NoRow("a word of the row is none of its sort")
    return [words[0]] + values


def wish_of(carpet, word):
    wish = movements_of(len(carpet), word)
    if wish is None or len(wish) > MOST_WISHED:
        raise NoRow("the wish is no list of at most twelve movements of the side")
    return wish


def shown_size(cloth):
    size = size_of(cloth)
    return str(size[0]) + "x" + str(size[1])


def shown_cell(cell):
    return "/".join(cell[0]) + " " + str(cell[1])


def shown_kin(movement):
    if movement is None:
        return "none"
    return shown_movement(movement)


def shown_dyekin(told):
    if told is None:
        return "none"
    dyeing = ",".join([pair[0] + ">" + pair[1] for pair in told[1]])
    return shown_movement(told[0]) + " " + dyeing


def shown_near(told):
    return shown_movement(told[0]) + " " + str(len(told[1]))


# The answer to a row that changes nothing; its names are cloths by now.
def answer_of_one(word, cloth):
    if word == "show":
        return shown_cloth(cloth)
    if word == "weave":
        return shown_weaving(woven(cloth))
    if word == "cost":
        return str(weaving_cost(woven(cloth)))
    if word == "leaves":
        return str(len(leaving(cloth)))
    if word == "few":
        return shown_movements(few_of(len(cloth), leaving(cloth)))
    if word == "kind":
        return kind(cloth)[0]
    return shown_cell(least_cell(cloth))


def answer_of_two(word, one, other):
    if word == "kin":
        return shown_kin(kin(one, other))
    if word == "dyekin":
        return shown_dyekin(kin_by_colours(one, other))
    if word == "near":
        return shown_near(nearest(one, other))
    if word == "number":
        return str(number_of(one, other))
    return str(count_of(one, other))


# A row that sets a cloth by a name tells the answer and the cloth.
def knot_told(text):
    cloth = knotted(read(text.replace(" | ", "\n")))
    return (shown_size(cloth), cloth)


def mend_told(carpet, word):
    told = mended(carpet, wish_of(carpet, word))
    return (str(len(told[1])), told[0])


def better_told(carpet, most):
    told = bettered(carpet, most)
    return (str(told[1]) + " " + shown_movements(told[0]), told[2][0])


def setting_told(values):
    word = values[0]
    if word == "knot":
        return knot_told(values[2])
    if word == "lay":
        return (shown_size(values[2]), values[2])
    if word == "carpet":
        return ("ok", carpet_of(values[2], values[3], values[4]))
    if word == "mend":
        return mend_told(values[1], values[2])
    return better_told(values[1], values[2])


def answer_and_cloth(values):
    if values[0] in ("knot", "lay", "carpet", "mend", "better"):
        return setting_told(values)
    if len(values) == 2:
        return (answer_of_one(values[0], values[1]), None)
    return (answer_of_two(values[0], values[1], values[2]), None)


def check_carpets(word, values):
    if word in OF_ANY_CLOTH:
        return
    for sort, value in zip(FORMS[word], values[1:]):
        if sort == "name" and not is_carpet(value):
            raise NoCarpet("the row asks for a carpet")


class Desk:
    def __init__(self):
        self.cloths = {}

    def standing(self, sort, value):
        if sort != "name":
            return value
        if value not in self.cloths:
            raise Nobody("no cloth stands by the name")
        return self.cloths[value]

    def with_cloths(self, values):
        sorts = FORMS[values[0]]
        return values[:1] + [self.standing(sort, value) for sort, value in zip(sorts, values[1:])]

    def say(self, row):
        values = values_of(row)
        found = self.with_cloths(values)
        check_carpets(values[0], found)
        told = answer_and_cloth(found)
        if told[1] is not None:
            self.cloths[values[1]] = told[1]
        return told[0]
