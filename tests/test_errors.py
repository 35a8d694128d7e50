import copy
import unittest

from carpetkin import errors

OF_A_TEXT = ("NoCloth", "NoFit", "TooBig", "NoFold", "NoWeaving", "Unlike", "NoNumber", "NoRow", "Nobody", "NoCarpet")
OF_FIELDS = {
    "NoText": ("row",),
    "NoName": ("row", "name"),
    "Misfit": ("row",),
    "TooWide": ("row",),
    "TooLarge": ("many",),
    "NoColour": ("colour",),
    "NoWish": ("place",),
}
VALUES = {"row": 3, "name": "rose", "many": 729, "colour": "q", "place": 5}


class Standing(unittest.TestCase):
    def test_all_are_there_and_no_others(self):
        found = {name for name, thing in vars(errors).items() if isinstance(thing, type)}
        self.assertEqual(found, {"CarpetError", *OF_A_TEXT, *OF_FIELDS})

    def test_the_base_stands_under_value_error(self):
        self.assertEqual(errors.CarpetError.__bases__, (ValueError,))

    def test_each_stands_under_the_base_and_none_under_another(self):
        for name in (*OF_A_TEXT, *OF_FIELDS):
            with self.subTest(name):
                self.assertEqual(getattr(errors, name).__bases__, (errors.CarpetError,))


class Making(unittest.TestCase):
    def test_of_a_text(self):
        for name in ("CarpetError", *OF_A_TEXT):
            with self.subTest(name):
                self.assertEqual(str(getattr(errors, name)("a text")), "a text")

    def test_of_fields_in_order(self):
        for name, fields in OF_FIELDS.items():
            with self.subTest(name):
                error = getattr(errors, name)(*[VALUES[field] for field in fields])
                self.assertEqual(vars(error), {field: VALUES[field] for field in fields})

    def test_a_copy_has_the_same_fields(self):
        for name, fields in OF_FIELDS.items():
            with self.subTest(name):
                error = getattr(errors, name)(*[VALUES[field] for field in fields])
                self.assertEqual(vars(copy.copy(error)), vars(error))


if __name__ == "__main__":
    unittest.main()
