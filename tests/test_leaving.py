import unittest

from carpetkin.leaving import leaves, leaving, unlike_at
from carpetkin.movements import all_movements, moved, taken_back, then

from carpets import DRAWN, carpets_of, some_carpets

STAY = ("stay", 0, 0)
TRIED = (*DRAWN, *carpets_of(2, "abc"), *some_carpets(3, "ab", 30), *some_carpets(4, "ab", 10), *some_carpets(5, "ab",
                                                                                                              3))


class Leaves(unittest.TestCase):
    def test_by_hand(self):
        self.assertIs(leaves(("ab", "ba"), ("stay", 1, 1)), True)
        self.assertIs(leaves(("ab", "ba"), ("stay", 0, 1)), False)
        self.assertIs(leaves(("ab", "ab"), ("stay", 1, 0)), True)
        self.assertIs(leaves(("ab", "ab"), ("turn", 0, 0)), False)
        self.assertIs(leaves(("abc", "bca", "cab"), ("stay", 1, 2)), True)
        self.assertIs(leaves(("abc", "bca", "cab"), ("stay", 1, 1)), False)
        self.assertIs(leaves(("abc", "bca", "cab"), ("cross", 0, 0)), True)

    def test_first_place_by_hand(self):
        self.assertIsNone(unlike_at(("ab", "ba"), ("stay", 1, 1)))
        self.assertEqual(unlike_at(("ab", "ba"), ("stay", 0, 1)), (0, 0))
        self.assertEqual(unlike_at(("aaa", "aba", "aaa"), ("stay", 1, 0)), (1, 1))
        self.assertEqual(unlike_at(("aaa", "aaa", "aab"), ("stay", 0, 1)), (2, 0))
        self.assertEqual(unlike_at(("abc", "def", "ghi"), ("cross", 0, 0)), (0, 1))

    def test_against_the_moved_carpet(self):
        for carpet in TRIED:
            side = len(carpet)
            for movement in all_movements(side):
                come = moved(carpet, movement)
                unlike = [(r, c) for r in range(side) for c in range(side) if come[r][c] != carpet[r][c]]
                self.assertEqual(unlike_at(carpet, movement), unlike[0] if unlike else None)
                self.assertIs(leaves(carpet, movement), come == carpet)


class AllThatLeaves(unittest.TestCase):
    def test_one_colour(self):
        for side in range(1, 9):
            self.assertEqual(leaving(("q" * side,) * side), all_movements(side))

    def test_nothing_but_stay(self):
        for carpet in (("abc", "def", "ghi"), ("abcd", "efgh", "ijkl", "mnop"), ("aaab", "aabb", "abaa", "bbbb")):
            self.assertEqual(leaving(carpet), [movement for movement in all_movements(len(carpet))
                                               if moved(carpet, movement) == carpet])
        self.assertEqual(leaving(("abc", "def", "ghi")), [STAY])

    def test_stripes_and_chequers(self):
        self.assertEqual(len(leaving(("ab", "ab"))), 8)
        self.assertEqual(len(leaving(("ab", "ba"))), 16)
        self.assertEqual(len(leaving(("abab", "baba") * 2)), 64)
        self.assertEqual(len(leaving(("aabb",) * 4)), 16)
        self.assertIn(("half", 0, 0), leaving(("ab", "ba")))

    def test_just_those_that_do_sorted(self):
        for carpet in TRIED:
            told = leaving(carpet)
            self.assertEqual(told, sorted(m for m in all_movements(len(carpet)) if moved(carpet, m) == carpet))

    def test_closed(self):
        for carpet in TRIED:
            side = len(carpet)
            told = leaving(carpet)
            self.assertIn(STAY, told)
            if len(told) <= 128:
                for one in told:
                    self.assertIn(taken_back(side, one), told)
                self.assertEqual({then(side, one, other) for one in told for other in told}, set(told))

    def test_the_list_is_the_askers_own(self):
        leaving(("ab", "ba")).clear()
        self.assertEqual(len(leaving(("ab", "ba"))), 16)


if __name__ == "__main__":
    unittest.main()
