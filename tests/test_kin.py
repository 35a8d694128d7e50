import itertools
import unittest

from carpetkin.errors import CarpetError, Unlike
from carpetkin.forms import dyed, form_by_colours, least_form
from carpetkin.kin import kin, kin_by_colours, nearest
from carpetkin.movements import all_movements, is_movement, moved

from carpets import carpets_of, some_carpets

OF_TWO = carpets_of(2, "ab") + carpets_of(2, "ac")
OF_THREE = carpets_of(3, "ab")[::23] + some_carpets(3, "abc", 12) + [("abc", "bca", "cab"), ("acb", "cba", "bac")]
UNLIKE_SIDES = ((("a",), ("aa", "aa")), (("aa", "aa"), ("a",)), (("aaa",) * 3, ("aa",) * 2), (("a" * 8,) * 8,
                                                                                              ("a" * 7,) * 7))


def pairs():
    return [*itertools.product(OF_TWO, repeat=2), *itertools.product(OF_THREE, repeat=2)]


def unlike_places(one, other):
    side = len(one)
    return [(r, c) for r in range(side) for c in range(side) if one[r][c] != other[r][c]]


class Kin(unittest.TestCase):
    def test_by_hand(self):
        self.assertIsNotNone(kin(("ab", "bb"), ("bb", "ba")))
        self.assertIsNotNone(kin(("ab", "ab"), ("aa", "bb")))
        self.assertIsNone(kin(("ab", "ab"), ("ab", "ba")))
        self.assertIsNone(kin(("a",), ("b",)))
        self.assertIsNone(kin(("aa", "ab"), ("bb", "ba")))

    def test_a_movement_just_where_the_least_forms_are_one(self):
        for one, other in pairs():
            movement = kin(one, other)
            self.assertEqual(movement is not None, least_form(one)[0] == least_form(other)[0])
            if movement is not None:
                self.assertTrue(is_movement(len(one), movement))
                self.assertEqual(moved(one, movement), other)

    def test_each_moved_one(self):
        for carpet in (("abc", "def", "ghi"), ("abcd", "efgh", "ijkl", "mnop"), *some_carpets(5, "ab", 1)):
            for movement in all_movements(len(carpet)):
                other = moved(carpet, movement)
                self.assertEqual(moved(carpet, kin(carpet, other)), other)

    def test_unlike_sides(self):
        for one, other in UNLIKE_SIDES:
            self.assertIsNone(kin(one, other))


class KinByColours(unittest.TestCase):
    def test_by_hand(self):
        self.assertEqual(kin_by_colours(("a",), ("z",))[1], [("a", "z")])
        self.assertEqual(kin_by_colours(("aa", "ab"), ("bb", "ba"))[1], [("a", "b"), ("b", "a")])
        self.assertEqual(kin_by_colours(("aa", "ab"), ("aa", "ab"))[1], [("a", "a"), ("b", "b")])
        self.assertEqual(kin_by_colours(("aa", "ab"), ("bb", "bc"))[1], [("a", "b"), ("b", "c")])

    def test_as_many_colours_and_not_kin(self):
        self.assertIsNone(kin_by_colours(("ab", "ab"), ("ab", "ba")))
        self.assertIsNone(kin_by_colours(("ab", "ab"), ("aa", "ab")))
        self.assertIsNone(kin_by_colours(("aaa", "aab", "aac"), ("aaa", "aba", "aac")))

    def test_not_as_many_colours(self):
        self.assertIsNone(kin_by_colours(("ab", "ab"), ("aa", "aa")))
        self.assertIsNone(kin_by_colours(("aa", "aa"), ("ab", "ab")))
        self.assertIsNone(kin_by_colours(("ab", "ca"), ("ab", "ba")))
        self.assertIsNone(kin_by_colours(("ab", "cd"), ("ab", "ca")))

    def test_just_where_the_forms_by_colours_are_one(self):
        for one, other in pairs():
            told = kin_by_colours(one, other)
            self.assertEqual(told is not None, form_by_colours(one)[0] == form_by_colours(other)[0])
            if told is not None:
                self.assertIsInstance(told, tuple)
                movement, dyeing = told
                self.assertTrue(is_movement(len(one), movement))
                self.assertIsInstance(dyeing, list)
                self.assertEqual(dyeing, sorted(dyeing))
                self.assertEqual([old for old, new in dyeing], sorted(set("".join(one))))
                self.assertEqual(len({new for old, new in dyeing}), len(dyeing))
                self.assertEqual(dyed(moved(one, movement), dyeing), other)

    def test_unlike_sides(self):
        for one, other in UNLIKE_SIDES:
            self.assertIsNone(kin_by_colours(one, other))

    def test_the_dyeing_is_the_askers_own(self):
        kin_by_colours(("aa", "ab"), ("bb", "ba"))[1].clear()
        self.assertEqual(len(kin_by_colours(("aa", "ab"), ("bb", "ba"))[1]), 2)


class Nearest(unittest.TestCase):
    def test_by_hand(self):
        self.assertEqual(nearest(("a",), ("b",))[1], [(0, 0)])
        self.assertEqual(nearest(("ab", "bb"), ("bb", "ba"))[1], [])
        self.assertEqual(len(nearest(("ab", "ab"), ("ab", "ba"))[1]), 2)
        self.assertEqual(nearest(("aa", "aa"), ("ab", "ba"))[1], [(0, 1), (1, 0)])

    def test_no_movement_leaves_fewer(self):
        for one, other in pairs():
            told = nearest(one, other)
            self.assertIsInstance(told, tuple)
            movement, places = told
            self.assertIsInstance(places, list)
            self.assertTrue(is_movement(len(one), movement))
            self.assertEqual(places, unlike_places(moved(one, movement), other))
            fewest = min(len(unlike_places(moved(one, m), other)) for m in all_movements(len(one)))
            self.assertEqual(len(places), fewest)

    def test_a_great_side(self):
        one, other = some_carpets(8, "ab", 2)
        movement, places = nearest(one, other)
        self.assertEqual(places, unlike_places(moved(one, movement), other))
        self.assertEqual(len(places), min(len(unlike_places(moved(one, m), other)) for m in all_movements(8)))

    def test_unlike_sides(self):
        for one, other in UNLIKE_SIDES:
            with self.assertRaises(Unlike) as refused:
                nearest(one, other)
            self.assertIsInstance(refused.exception, CarpetError)

    def test_the_places_are_the_askers_own(self):
        nearest(("a",), ("b",))[1].clear()
        self.assertEqual(nearest(("a",), ("b",))[1], [(0, 0)])


if __name__ == "__main__":
    unittest.main()
