import math
import unittest

from carpetkin.cells import drawn, is_cell, least_cell
from carpetkin.leaving import leaving

from carpets import DRAWN, carpets_of, some_carpets

TRIED = (*DRAWN, *carpets_of(1, "ab"), *carpets_of(2, "abc"), *carpets_of(3, "ab"), *some_carpets(4, "ab", 40))


def drawn_at(cell, r, c):
    rows, slide = cell
    return rows[r % len(rows)][(c - slide * (r // len(rows))) % len(rows[0])]


def is_cell_plainly(carpet, cell):
    n, a, d = len(carpet), len(cell[0]), len(cell[0][0])
    down, right = math.lcm(n, a * d), math.lcm(n, d)
    return all(drawn_at(cell, r, c) == carpet[r % n][c % n] for r in range(-down, down) for c in range(-right, right))


def cells_of(carpet, most):
    """All cells with the carpet's own knots, to so many rows and knots a row."""
    n = len(carpet)
    for a in range(1, most + 1):
        for d in range(1, most + 1):
            rows = tuple("".join(carpet[r % n][c % n] for c in range(d)) for r in range(a))
            for slide in range(d):
                yield (rows, slide)


class Drawn(unittest.TestCase):
    def test_by_hand(self):
        self.assertEqual(drawn(1, (("a",), 0)), ("a",))
        self.assertEqual(drawn(3, (("a",), 0)), ("aaa", "aaa", "aaa"))
        self.assertEqual(drawn(3, (("abc",), 0)), ("abc", "abc", "abc"))
        self.assertEqual(drawn(3, (("abc",), 1)), ("abc", "cab", "bca"))
        self.assertEqual(drawn(3, (("abc",), 2)), ("abc", "bca", "cab"))
        self.assertEqual(drawn(4, (("ab", "cd"), 1)), ("abab", "cdcd", "baba", "dcdc"))
        self.assertEqual(drawn(5, (("a", "b"), 0)), ("aaaaa", "bbbbb", "aaaaa", "bbbbb", "aaaaa"))

    def test_more_rows_and_knots_than_the_side(self):
        self.assertEqual(drawn(2, (("abc", "def", "ghi"), 2)), ("ab", "de"))
        self.assertEqual(drawn(2, (("abcdefghij",), 3)), ("ab", "hi"))
        self.assertEqual(drawn(1, (("abc", "def", "ghi"), 0)), ("a",))

    def test_knot_by_knot(self):
        for n in range(1, 9):
            for cell in ((("abcde", "fghij"), 3), (("ab",), 1), (("abcdefghijk",) * 3, 10), (("a", "b", "c"), 0)):
                carpet = drawn(n, cell)
                self.assertEqual((len(carpet), {len(row) for row in carpet}), (n, {n}))
                for r in range(n):
                    for c in range(n):
                        self.assertEqual(carpet[r][c], drawn_at(cell, r, c))

    def test_64_rows_and_knots(self):
        rows = tuple(("abcdefgh"[r % 8:] + "abcdefgh"[:r % 8]) * 8 for r in range(64))
        self.assertEqual(drawn(8, (rows, 5)), tuple(row[:8] for row in rows[:8]))


class IsCell(unittest.TestCase):
    def test_by_hand(self):
        self.assertIs(is_cell(("ab", "ba"), (("ab",), 1)), True)
        self.assertIs(is_cell(("ab", "ba"), (("ab",), 0)), False)
        self.assertIs(is_cell(("ab", "ba"), (("ba",), 1)), False)
        self.assertIs(is_cell(("ab", "ba"), (("ab", "ba"), 0)), True)
        self.assertIs(is_cell(("ab", "ba"), (("ab", "ba"), 1)), False)
        self.assertIs(is_cell(("ab", "ba"), (("ab", "ba", "ab"), 1)), True)
        self.assertIs(is_cell(("abc", "cab", "bca"), (("abc",), 1)), True)
        self.assertIs(is_cell(("abc", "cab", "bca"), (("abc",), 2)), False)

    def test_the_first_rows_and_knots_alone_are_not_enough(self):
        for carpet, cell in ((("ab", "ab"), (("ab", "ab", "xx"), 0)), (("ab", "ab"), (("aba",), 0)),
                             (("aa", "aa"), (("aa", "aa", "ab"), 0)), (("ab", "ba"), (("abx", "bax"), 0)),
                             (("ab", "ba"), (("ab", "ba", "ab"), 0)), (("abb", "abb", "abb"), (("abb", "abb", "abb"),
                                                                                               1)),
                             (("ab", "cd"), (("ab", "cd"), 1)), (("aab", "aab", "aab"), (("aabaabab",) * 3, 0))):
            with self.subTest((carpet, cell)):
                self.assertEqual(drawn(len(carpet), cell), carpet)
                self.assertIs(is_cell(carpet, cell), False)
                self.assertIs(is_cell_plainly(carpet, cell), False)

    def test_against_every_knot(self):
        for carpet in (*carpets_of(1, "ab"), *carpets_of(2, "ab"), *carpets_of(3, "ab")[::7], *DRAWN[5:12]):
            for cell in cells_of(carpet, 5):
                self.assertIs(is_cell(carpet, cell), is_cell_plainly(carpet, cell), (carpet, cell))

    def test_knots_that_are_others(self):
        for carpet in carpets_of(2, "ab"):
            for other in carpets_of(2, "ab"):
                for slide in (0, 1):
                    self.assertIs(is_cell(carpet, (other, slide)), is_cell_plainly(carpet, (other, slide)))

    def test_64_rows_and_knots(self):
        carpet = ("abcdefgh", "bcdefgha", "cdefghab", "defghabc", "efghabcd", "fghabcde", "ghabcdef", "habcdefg")
        rows = tuple(row * 8 for row in carpet) * 8
        self.assertIs(is_cell(carpet, (rows, 0)), True)
        self.assertIs(is_cell(carpet, (rows, 8)), True)
        self.assertIs(is_cell(carpet, (rows, 63)), False)
        self.assertIs(is_cell(carpet, (rows[:63], 0)), False)
        self.assertIs(is_cell(carpet, (rows[:63], 1)), True)
        self.assertIs(is_cell(carpet, (rows[:-1] + ("a" + rows[-1][1:],), 0)), False)


class LeastCell(unittest.TestCase):
    def test_by_hand(self):
        for carpet, cell in (
            (("a",), (("a",), 0)),
            (("qqq", "qqq", "qqq"), (("q",), 0)),
            (("ab", "ab"), (("ab",), 0)),
            (("aa", "bb"), (("a", "b"), 0)),
            (("ab", "ba"), (("ab",), 1)),
            (("abc", "cab", "bca"), (("abc",), 1)),
            (("abc", "bca", "cab"), (("abc",), 2)),
            (("abc", "def", "ghi"), (("abc", "def", "ghi"), 0)),
            (("abab", "baba", "abab", "baba"), (("ab",), 1)),
            (("aabb", "aabb", "bbaa", "bbaa"), (("aabb", "aabb"), 2)),
            (("abcd", "cdab", "abcd", "cdab"), (("abcd",), 2)),
            (("aaaaaaaa",) * 7 + ("aaaaaaab",), (("aaaaaaaa",) * 7 + ("aaaaaaab",), 0)),
        ):
            with self.subTest(carpet):
                self.assertEqual(least_cell(carpet), cell)

    def test_it_is_a_cell_and_its_measures_divide_the_side(self):
        for carpet in TRIED:
            n = len(carpet)
            cell = least_cell(carpet)
            rows, slide = cell
            a, d = len(rows), len(rows[0])
            self.assertIsInstance(rows, tuple)
            self.assertEqual(rows, tuple(row[:d] for row in carpet[:a]))
            self.assertTrue(0 <= slide < d)
            self.assertEqual((n % a, n % d), (0, 0))
            self.assertIs(is_cell(carpet, cell), True)
            self.assertTrue(is_cell_plainly(carpet, cell))
            self.assertEqual(drawn(n, cell), carpet)
            shoves = [movement for movement in leaving(carpet) if movement[0] == "stay"]
            self.assertEqual(n * n // (a * d), len(shoves))

    def test_as_it_is_told(self):
        for carpet in TRIED:
            n = len(carpet)
            left = leaving(carpet)
            d = min(k for k in range(1, n + 1) if ("stay", 0, k % n) in left)
            a = min(k for k in range(1, n + 1) if any(("stay", k % n, s) in left for s in range(d)))
            slide = min(s for s in range(d) if ("stay", a % n, s) in left)
            self.assertEqual(least_cell(carpet), (tuple(row[:d] for row in carpet[:a]), slide))

    def test_no_cell_has_fewer_knots(self):
        for carpet in (*DRAWN[:15], *carpets_of(2, "abc"), *carpets_of(3, "ab")[::5]):
            rows = least_cell(carpet)[0]
            for cell in cells_of(carpet, 9):
                if len(cell[0]) * len(cell[0][0]) < len(rows) * len(rows[0]):
                    self.assertFalse(is_cell_plainly(carpet, cell), (carpet, cell))


if __name__ == "__main__":
    unittest.main()
