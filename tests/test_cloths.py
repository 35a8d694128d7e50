import unittest

from carpetkin.cloths import (
    above, across, beside, down, is_carpet, is_cloth, knot, read_cloth, shown_cloth, size_of, stretch, turned,
)
from carpetkin.errors import NoCloth, NoFit, TooBig

CLOTHS = (
    ("a",),
    ("z",),
    ("az",),
    ("a", "z"),
    ("abc", "def"),
    ("ab", "cd", "ef"),
    ("abc", "def", "ghi"),
    ("x" * 24,),
    ("y",) * 24,
    ("mn" * 12,) * 24,
)
OTHER_KINDS = (
    None, True, False, 0, 1, -3, 2.5, b"ab", "", "a", "ab", [], {}, set(), (), ["ab", "cd"], {"ab": "cd"},
    {"ab", "cd"}, frozenset(["ab"]), object(), len, int, range(3), iter(["ab"]),
)
NO_CLOTHS = (
    ("",),
    ("", ""),
    ("ab", "c"),
    ("a", "bc"),
    ("ab", ""),
    ("", "ab"),
    ("a",) * 25,
    ("a" * 25,),
    ("a" * 25,) * 25,
    ("A",),
    ("aB",),
    ("a1",),
    ("a b",),
    ("a/b",),
    ("a\n",),
    ("\n",),
    ("`",),
    ("{",),
    ("\u00e9",),
    ("\u00df",),
    ("ab", "c-"),
    ("ab", None),
    ("ab", 12),
    ("ab", True),
    ("ab", b"cd"),
    ("ab", ("c", "d")),
    ("ab", ["c", "d"]),
    (("a",),),
    (["a"],),
    (1,),
    (None,),
    ({},),
    (b"a",),
)


class Anything:
    def __eq__(self, other):
        return True

    def __len__(self):
        return 1

    def __getitem__(self, k):
        return "a"


class WhatIsACloth(unittest.TestCase):
    def test_cloths(self):
        for cloth in CLOTHS:
            with self.subTest(cloth):
                self.assertIs(is_cloth(cloth), True)

    def test_each_small_letter_is_a_colour(self):
        self.assertIs(is_cloth(("abcdefghijklm", "nopqrstuvwxyz")), True)

    def test_each_other_sign_is_none(self):
        for sign in [chr(k) for k in range(256) if not 97 <= k <= 122]:
            with self.subTest(sign):
                self.assertIs(is_cloth((sign,)), False)
                self.assertIs(is_cloth(("ab", "a" + sign)), False)

    def test_24_and_25_rows_and_knots(self):
        for rows in (1, 23, 24, 25, 26):
            for knots in (1, 23, 24, 25, 26):
                with self.subTest((rows, knots)):
                    self.assertIs(is_cloth(("k" * knots,) * rows), rows <= 24 and knots <= 24)

    def test_what_is_none(self):
        for thing in (*NO_CLOTHS, *OTHER_KINDS, Anything(), (Anything(),)):
            with self.subTest(repr(thing)):
                self.assertIs(is_cloth(thing), False)
                self.assertIs(is_carpet(thing), False)

    def test_carpets_have_sides_1_to_8(self):
        for rows in range(1, 25):
            for knots in range(1, 25):
                with self.subTest((rows, knots)):
                    self.assertIs(is_carpet(("a" * knots,) * rows), rows == knots and rows <= 8)

    def test_size(self):
        for rows in (1, 2, 7, 24):
            for knots in (1, 3, 24):
                self.assertEqual(size_of(("q" * knots,) * rows), (rows, knots))


class LaidTogether(unittest.TestCase):
    def test_beside(self):
        self.assertEqual(beside(("abc", "def"), ("x", "y")), ("abcx", "defy"))
        self.assertEqual(beside(("a",), ("b",)), ("ab",))

    def test_above(self):
        self.assertEqual(above(("ab", "cd"), ("xy",)), ("ab", "cd", "xy"))
        self.assertEqual(above(("a",), ("b",)), ("a", "b"))

    def test_no_fit(self):
        for one, other in ((("a",), ("b", "c")), (("ab", "cd", "ef"), ("ab", "cd")), (("a" * 24,), ("b" * 24,) * 2)):
            with self.subTest((one, other)):
                self.assertRaises(NoFit, beside, one, other)
                self.assertRaises(NoFit, beside, other, one)
        for one, other in ((("a",), ("bc",)), (("abc", "def"), ("xy",)), (("a",) * 24, ("bb",) * 24)):
            with self.subTest((one, other)):
                self.assertRaises(NoFit, above, one, other)
                self.assertRaises(NoFit, above, other, one)

    def test_what_fits_one_way_alone(self):
        self.assertEqual(beside(("a",), ("bc",)), ("abc",))
        self.assertEqual(above(("a",), ("b", "c")), ("a", "b", "c"))

    def test_beside_24_and_25(self):
        for rows in (1, 24):
            self.assertEqual(beside(("a" * 11,) * rows, ("b" * 13,) * rows), ("a" * 11 + "b" * 13,) * rows)
            self.assertRaises(TooBig, beside, ("a" * 12,) * rows, ("b" * 13,) * rows)
            self.assertRaises(TooBig, beside, ("a" * 24,) * rows, ("b",) * rows)

    def test_above_24_and_25(self):
        for knots in (1, 24):
            self.assertEqual(above(("a" * knots,) * 23, ("b" * knots,)), ("a" * knots,) * 23 + ("b" * knots,))
            self.assertRaises(TooBig, above, ("a" * knots,) * 24, ("b" * knots,))
            self.assertRaises(TooBig, above, ("a" * knots,) * 12, ("b" * knots,) * 13)

    def test_across(self):
        self.assertEqual(across(("ab", "cd"), 1), ("ab", "cd"))
        self.assertEqual(across(("ab", "cd"), 3), ("ababab", "cdcdcd"))
        self.assertEqual(across(("a",), 24), ("a" * 24,))
        self.assertEqual(across(("abc",) * 24, 8), ("abc" * 8,) * 24)

    def test_down(self):
        self.assertEqual(down(("ab", "cd"), 1), ("ab", "cd"))
        self.assertEqual(down(("ab", "cd"), 3), ("ab", "cd", "ab", "cd", "ab", "cd"))
        self.assertEqual(down(("a",), 24), ("a",) * 24)
        self.assertEqual(down(("a" * 24, "b" * 24), 12), ("a" * 24, "b" * 24) * 12)

    def test_repeated_too_often(self):
        for knots in range(1, 25):
            for many in range(1, 25):
                with self.subTest((knots, many)):
                    if knots * many > 24:
                        self.assertRaises(TooBig, across, ("a" * knots,), many)
                        self.assertRaises(TooBig, down, ("a",) * knots, many)
                    else:
                        self.assertEqual(across(("a" * knots,), many), ("a" * knots * many,))
                        self.assertEqual(down(("a",) * knots, many), ("a",) * (knots * many))

    def test_what_is_long_the_other_way_is_repeated(self):
        self.assertEqual(across(("a",) * 24, 2), ("aa",) * 24)
        self.assertEqual(down(("a" * 24,), 2), ("a" * 24,) * 2)


class WithoutEnd(unittest.TestCase):
    carpet = ("abc", "def", "ghi")

    def test_knots_of_the_carpet_itself(self):
        for r in range(3):
            for c in range(3):
                self.assertEqual(knot(self.carpet, r, c), self.carpet[r][c])

    def test_places_beyond_and_below(self):
        self.assertEqual(knot(self.carpet, 3, 4), "b")
        self.assertEqual(knot(self.carpet, -1, -1), "i")
        self.assertEqual(knot(self.carpet, -3, -4), "c")
        self.assertEqual(knot(self.carpet, 3 * 10 ** 40 + 1, -3 * 10 ** 40 - 1), "f")
        self.assertEqual(knot(("q",), -10 ** 30, 10 ** 30), "q")

    def test_a_shove_by_the_side_changes_nothing(self):
        for r in range(-4, 5):
            for c in range(-4, 5):
                for far in (-3, 3, 3 * 10 ** 20):
                    self.assertEqual(knot(self.carpet, r + far, c), knot(self.carpet, r, c))
                    self.assertEqual(knot(self.carpet, r, c + far), knot(self.carpet, r, c))

    def test_stretch(self):
        self.assertEqual(stretch(self.carpet, (0, 0), 3, 3), self.carpet)
        self.assertEqual(stretch(self.carpet, (1, 2), 2, 4), ("fdef", "ighi"))
        self.assertEqual(stretch(self.carpet, (-1, -2), 1, 1), ("h",))
        self.assertEqual(stretch(("ab", "cd"), (2 * 10 ** 30, 1), 3, 2), ("ba", "dc", "ba"))

    def test_stretches_are_cloths_of_that_size(self):
        for place in ((0, 0), (-7, 5), (10 ** 25, -10 ** 25)):
            for rows in (1, 2, 23, 24):
                for knots in (1, 4, 24):
                    cloth = stretch(self.carpet, place, rows, knots)
                    self.assertTrue(is_cloth(cloth))
                    self.assertEqual(size_of(cloth), (rows, knots))
                    for r in range(rows):
                        for c in range(knots):
                            wanted = self.carpet[(place[0] + r) % 3][(place[1] + c) % 3]
                            self.assertEqual(cloth[r][c], wanted)

    def test_what_lies_beyond_the_bounds_is_not_refused(self):
        self.assertEqual(stretch(self.carpet, (0, 0), 25, 1), ("a", "d", "g") * 8 + ("a",))
        self.assertEqual(stretch(self.carpet, (0, 0), 1, 26), ("abc" * 8 + "ab",))
        self.assertEqual(knot(("a" * 9,) * 8 + ("abcdefghi",), -1, 10), "b")


class Written(unittest.TestCase):
    def test_shown(self):
        self.assertEqual(shown_cloth(("a",)), "a")
        self.assertEqual(shown_cloth(("abc", "def")), "abc/def")
        self.assertEqual(shown_cloth(("a", "b", "c")), "a/b/c")

    def test_read(self):
        self.assertEqual(read_cloth("z"), ("z",))
        self.assertEqual(read_cloth("abc/def"), ("abc", "def"))

    def test_what_was_written_is_read(self):
        for cloth in CLOTHS:
            with self.subTest(cloth):
                self.assertEqual(read_cloth(shown_cloth(cloth)), cloth)

    def test_no_cloth(self):
        texts = (
            "", "/", "//", "/a", "a/", "ab//cd", "ab/c", "a/bc", "ab/cd/", "Ab", "a1", " ab", "ab ", "a b", "ab /cd",
            "ab/ cd", "ab\n", "ab\ncd", "ab|cd", "ab,cd", "ab\\cd", "[ab]", "a" * 25, "/".join(["a"] * 25),
            "/".join(["a" * 25] * 2), "('ab',)", "a" * 20000,
        )
        for text in texts:
            with self.subTest(text):
                self.assertRaises(NoCloth, read_cloth, text)

    def test_24_rows_and_knots_are_read(self):
        self.assertEqual(read_cloth("/".join(["b" * 24] * 24)), ("b" * 24,) * 24)

    def test_what_is_no_text(self):
        for thing in (None, True, 0, 7, b"ab", b"", ("ab", "cd"), ["ab"], {}, (), ["a", "/", "b"], object(),
                      Anything()):
            with self.subTest(repr(thing)):
                self.assertRaises(NoCloth, read_cloth, thing)


class TurnedCloths(unittest.TestCase):
    def test_each_way_of_one_that_is_no_carpet(self):
        wanted = {
            "stay": ("abc", "def"),
            "turn": ("da", "eb", "fc"),
            "half": ("fed", "cba"),
            "back": ("cf", "be", "ad"),
            "side": ("cba", "fed"),
            "flip": ("def", "abc"),
            "cross": ("ad", "be", "cf"),
            "other": ("fc", "eb", "da"),
        }
        for way, cloth in wanted.items():
            with self.subTest(way):
                self.assertEqual(turned(("abc", "def"), way), cloth)

    def test_each_way_knot_by_knot(self):
        old_place = {
            "stay": lambda rows, knots, r, c: (r, c),
            "turn": lambda rows, knots, r, c: (rows - 1 - c, r),
            "half": lambda rows, knots, r, c: (rows - 1 - r, knots - 1 - c),
            "back": lambda rows, knots, r, c: (c, knots - 1 - r),
            "side": lambda rows, knots, r, c: (r, knots - 1 - c),
            "flip": lambda rows, knots, r, c: (rows - 1 - r, c),
            "cross": lambda rows, knots, r, c: (c, r),
            "other": lambda rows, knots, r, c: (rows - 1 - c, knots - 1 - r),
        }
        for cloth in (*CLOTHS, ("abcde", "fghij", "klmno"), ("abcdefghijklmnopqrstuvwx",)):
            rows, knots = len(cloth), len(cloth[0])
            for way, old in old_place.items():
                with self.subTest((cloth, way)):
                    come = turned(cloth, way)
                    swapped = way in ("turn", "back", "cross", "other")
                    self.assertTrue(is_cloth(come))
                    self.assertEqual(size_of(come), (knots, rows) if swapped else (rows, knots))
                    for r, row in enumerate(come):
                        for c, colour in enumerate(row):
                            place = old(rows, knots, r, c)
                            self.assertEqual(colour, cloth[place[0]][place[1]])

    def test_ways_made_of_others(self):
        for cloth in CLOTHS:
            turn = turned(cloth, "turn")
            self.assertEqual(turned(cloth, "half"), turned(turn, "turn"))
            self.assertEqual(turned(cloth, "back"), turned(turned(turn, "turn"), "turn"))
            self.assertEqual(turned(cloth, "other"), turned(turned(cloth, "cross"), "half"))


if __name__ == "__main__":
    unittest.main()
