import unittest

from carpetkin.betters import bettered
from carpetkin.circles import circles
from carpetkin.errors import CarpetError, TooLarge
from carpetkin.groups import made
from carpetkin.leaving import leaving
from carpetkin.mending import mended
from carpetkin.movements import all_movements, is_movement

from carpets import DRAWN, carpets_of, some_carpets


def all_groups(side):
    """Every group of movements of a side, with the circles that it has."""
    groups = {tuple(made(side, [])): []}
    waiting = [[]]
    for few in waiting:
        for movement in all_movements(side):
            group = tuple(made(side, few + [movement]))
            if group not in groups:
                groups[group] = few + [movement]
                waiting.append(few + [movement])
    return {(len(group), tuple(map(tuple, circles(side, few)))) for group, few in groups.items()}


GROUPS = {side: all_groups(side) for side in (1, 2, 3)}


def changes(carpet, found):
    many = 0
    for circle in found:
        knots = [carpet[r][c] for r, c in circle]
        many += len(knots) - max(knots.count(x) for x in knots)
    return many


def best(carpet, most):
    tried = [(-size, changes(carpet, found)) for size, found in GROUPS[len(carpet)]]
    size, fewest = min(pair for pair in tried if pair[1] <= most)
    return (-size, fewest)


class Bettered(unittest.TestCase):
    def check(self, carpet, most):
        told = bettered(carpet, most)
        self.assertIsInstance(told, tuple)
        few, size, paper = told
        self.assertIsInstance(few, list)
        self.assertLessEqual(len(few), 4)
        self.assertTrue(all(is_movement(len(carpet), movement) for movement in few))
        self.assertEqual(size, len(made(len(carpet), few)))
        self.assertEqual(paper, mended(carpet, few))
        self.assertLessEqual(len(paper[1]), most)
        self.assertEqual((size, len(paper[1])), best(carpet, most), (carpet, most))

    def test_by_hand(self):
        self.assertEqual(bettered(("q",), 0)[1:], (8, (("q",), [], [([(0, 0)], "q", 1)])))
        self.assertEqual(bettered(("ab", "ba"), 0)[1], 16)
        self.assertEqual(bettered(("ab", "aa"), 1)[1], 32)
        self.assertEqual(bettered(("ab", "aa"), 1)[2][:2], (("aa", "aa"), [(0, 1)]))
        self.assertEqual(bettered(("abc", "def", "ghi"), 0)[:2], ([], 1))
        self.assertEqual(bettered(("abc", "def", "ghi"), 8)[1], 72)
        self.assertLess(bettered(("abc", "def", "ghi"), 7)[1], 72)
        self.assertEqual(bettered(("aaa", "aba", "aaa"), 9)[2][:2], (("aaa", "aaa", "aaa"), [(1, 1)]))

    def test_sides_1_and_2_against_all_wishes(self):
        for carpet in (*carpets_of(1, "ab"), *carpets_of(2, "abcd")[::3], *carpets_of(2, "ab")):
            for most in range(10):
                self.check(carpet, most)

    def test_side_3_against_all_wishes(self):
        carpets = (*DRAWN[5:10], *some_carpets(3, "ab", 6), *some_carpets(3, "abc", 6), *some_carpets(3, "abcdefghi",
                                                                                                      4))
        for carpet in carpets:
            for most in range(10):
                self.check(carpet, most)

    def test_nothing_changed_gives_all_that_leaves(self):
        for carpet in (*carpets_of(2, "abc"), *some_carpets(3, "ab", 10)):
            self.assertEqual(bettered(carpet, 0)[1], len(leaving(carpet)))
            self.assertEqual(bettered(carpet, 0)[2][:2], (carpet, []))

    def test_greater_sides(self):
        for side in range(4, 9):
            for most in (0, 9):
                with self.assertRaises(TooLarge) as refused:
                    bettered(("a" * side,) * side, most)
                self.assertIsInstance(refused.exception, CarpetError)
                self.assertEqual(refused.exception.many, side * side)

    def test_what_is_told_is_the_askers_own(self):
        told = bettered(("ab", "aa"), 1)
        told[0].clear()
        told[2][1].clear()
        told[2][2][0][0].clear()
        self.check(("ab", "aa"), 1)


if __name__ == "__main__":
    unittest.main()
