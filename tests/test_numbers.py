import unittest

from carpetkin.errors import CarpetError, NoColour, NoNumber, TooLarge
from carpetkin.forms import least_form
from carpetkin.movements import all_movements, moved
from carpetkin.numbers import all_forms, carpet_of, number_of
from carpetkin.rounds import count_of

from carpets import carpets_of

LETTERS = "abcdefghijklmnopqrstuvwxyz"
LET_BY = [(1, k) for k in range(1, 27)] + [(2, 1), (2, 2), (2, 3), (2, 4), (3, 1), (3, 2)] + [(k, 1) for k in range(4,
                                                                                                                    9)]
TOO_LARGE = ((2, 5), (2, 26), (3, 3), (3, 26), (4, 2), (8, 2), (8, 26))
NO_NUMBERS = (-1, True, False, "0", "", None, 0.0, 1.5, [0], (), {}, object(), b"0", 10 ** 40, -10 ** 40)


class AllForms(unittest.TestCase):
    def test_by_hand(self):
        self.assertEqual(all_forms(1, 3), [("a",), ("b",), ("c",)])
        self.assertEqual(all_forms(2, 2), [("aa", "aa"), ("aa", "ab"), ("aa", "bb"), ("ab", "ba"), ("ab", "bb"),
                                           ("bb", "bb")])
        self.assertEqual(all_forms(8, 1), [("a" * 8,) * 8])

    def test_all_least_forms_sorted_as_many_as_the_count(self):
        for side, colours in LET_BY:
            forms = all_forms(side, colours)
            self.assertIsInstance(forms, list)
            self.assertEqual(forms, sorted({least_form(carpet)[0] for carpet in carpets_of(side, LETTERS[:colours])}))
            self.assertEqual(len(forms), count_of(side, colours))

    def test_too_large(self):
        for side, colours in TOO_LARGE:
            with self.assertRaises(TooLarge) as refused:
                all_forms(side, colours)
            self.assertIsInstance(refused.exception, CarpetError)
            self.assertEqual(refused.exception.many, colours ** (side * side))

    def test_the_list_is_the_askers_own(self):
        all_forms(2, 2).clear()
        self.assertEqual(len(all_forms(2, 2)), 6)


class Numbers(unittest.TestCase):
    def test_each_number_leads_back(self):
        for side, colours in LET_BY:
            for number in range(count_of(side, colours)):
                carpet = carpet_of(side, colours, number)
                self.assertEqual(number_of(carpet, colours), number)
                self.assertEqual(least_form(carpet)[0], carpet)

    def test_kin_have_one_number(self):
        for side, colours in ((2, 3), (3, 2)):
            forms = all_forms(side, colours)
            for number, carpet in enumerate(forms):
                for movement in all_movements(side)[::5]:
                    self.assertEqual(number_of(moved(carpet, movement), colours), number)

    def test_no_colour(self):
        for carpet, colours, colour in ((("b",), 1, "b"), (("zc", "ab"), 2, "c"), (("zy", "xa"), 3, "x"), (("z",), 25,
                                                                                                           "z"),
                                        (("cbb", "bab", "bbb"), 1, "b")):
            with self.assertRaises(NoColour) as refused:
                number_of(carpet, colours)
            self.assertIsInstance(refused.exception, CarpetError)
            self.assertEqual(refused.exception.colour, colour)
        self.assertEqual(number_of(("z",), 26), 25)
        self.assertEqual(number_of(("b",), 2), 1)

    def test_no_colour_ahead_of_too_large(self):
        with self.assertRaises(NoColour) as refused:
            number_of(("aaaa", "aaaa", "aaca", "dbaa"), 2)
        self.assertEqual(refused.exception.colour, "c")
        for side, colours in TOO_LARGE:
            with self.assertRaises(TooLarge) as refused:
                number_of(("a" * side,) * side, colours)
            self.assertEqual(refused.exception.many, colours ** (side * side))

    def test_no_number(self):
        for side, colours in ((1, 1), (1, 26), (2, 3), (3, 2), (8, 1)):
            many = count_of(side, colours)
            for number in (*NO_NUMBERS, many, many + 1):
                with self.subTest((side, colours, repr(number))):
                    with self.assertRaises(NoNumber) as refused:
                        carpet_of(side, colours, number)
                    self.assertIsInstance(refused.exception, CarpetError)
            self.assertEqual(carpet_of(side, colours, many - 1), all_forms(side, colours)[-1])
            self.assertEqual(carpet_of(side, colours, 0), ("a" * side,) * side)

    def test_no_number_behind_too_large(self):
        for side, colours in TOO_LARGE:
            for number in (0, *NO_NUMBERS):
                with self.assertRaises(TooLarge) as refused:
                    carpet_of(side, colours, number)
                self.assertEqual(refused.exception.many, colours ** (side * side))


if __name__ == "__main__":
    unittest.main()
