import unittest

from carpetkin.colours import colours_of, dyed_two, knots_by_colour, unlike
from carpetkin.errors import NoFit

CLOTH = ("cab", "bbz")


class Dyed(unittest.TestCase):
    def test_two_are_exchanged(self):
        self.assertEqual(dyed_two(CLOTH, "a", "b"), ("cba", "aaz"))
        self.assertEqual(dyed_two(CLOTH, "b", "a"), ("cba", "aaz"))
        self.assertEqual(dyed_two(("ab",), "a", "b"), ("ba",))

    def test_one_with_itself(self):
        for colour in ("a", "b", "q"):
            self.assertEqual(dyed_two(CLOTH, colour, colour), CLOTH)

    def test_colours_that_it_does_not_have(self):
        self.assertEqual(dyed_two(CLOTH, "b", "q"), ("caq", "qqz"))
        self.assertEqual(dyed_two(CLOTH, "q", "b"), ("caq", "qqz"))
        self.assertEqual(dyed_two(CLOTH, "q", "r"), CLOTH)

    def test_exchanged_twice_it_is_as_it_was(self):
        for one in "abcqz":
            for other in "abcqz":
                self.assertEqual(dyed_two(dyed_two(CLOTH, one, other), one, other), CLOTH)

    def test_the_largest(self):
        self.assertEqual(dyed_two(("ab" * 12,) * 24, "a", "b"), ("ba" * 12,) * 24)


class Told(unittest.TestCase):
    def test_colours(self):
        self.assertEqual(colours_of(CLOTH), ["a", "b", "c", "z"])
        self.assertEqual(colours_of(("q",)), ["q"])
        self.assertEqual(colours_of(("zyx", "zyx")), ["x", "y", "z"])
        self.assertEqual(colours_of(("zyxwvutsrqpon", "mlkjihgfedcba")), list("abcdefghijklmnopqrstuvwxyz"))

    def test_how_many(self):
        self.assertEqual(knots_by_colour(CLOTH), {"a": 1, "b": 3, "c": 1, "z": 1})
        self.assertEqual(knots_by_colour(("q",)), {"q": 1})
        self.assertEqual(knots_by_colour(("ab" * 12,) * 24), {"a": 288, "b": 288})

    def test_what_is_told_is_the_askers_own(self):
        for tell in (lambda: colours_of(CLOTH), lambda: unlike(CLOTH, ("cab", "bzz"))):
            told = tell()
            wanted = list(told)
            told.append("other")
            told[0] = "changed"
            self.assertEqual(tell(), wanted)
        told = knots_by_colour(CLOTH)
        told["a"] = 99
        told["q"] = 1
        self.assertEqual(knots_by_colour(CLOTH), {"a": 1, "b": 3, "c": 1, "z": 1})


class UnlikePlaces(unittest.TestCase):
    def test_places(self):
        self.assertEqual(unlike(CLOTH, CLOTH), [])
        self.assertEqual(unlike(CLOTH, ("cbb", "bby")), [(0, 1), (1, 2)])
        self.assertEqual(unlike(("ab",), ("ba",)), [(0, 0), (0, 1)])
        self.assertEqual(unlike(("a",), ("b",)), [(0, 0)])

    def test_they_are_sorted_beyond_ten_too(self):
        places = unlike(("a" * 24,) * 24, ("b" * 24,) * 24)
        self.assertEqual(places, [(r, c) for r in range(24) for c in range(24)])

    def test_either_way(self):
        self.assertEqual(unlike(("abc", "abc"), ("abd", "xbc")), unlike(("abd", "xbc"), ("abc", "abc")))

    def test_unlike_sizes(self):
        pairs = (
            (("a",), ("aa",)),
            (("a",), ("a", "a")),
            (("abc", "abc"), ("ab", "ab", "ab")),
            (("abc", "def"), ("abc", "def", "ghi")),
            (("a" * 24,), ("a",) * 24),
        )
        for one, other in pairs:
            with self.subTest((one, other)):
                self.assertRaises(NoFit, unlike, one, other)
                self.assertRaises(NoFit, unlike, other, one)


if __name__ == "__main__":
    unittest.main()
