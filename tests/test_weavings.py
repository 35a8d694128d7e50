import itertools
import random
import unittest

from carpetkin.errors import CarpetError, NoWeaving
from carpetkin.weavings import read_weaving, shown_weaving, unwoven, weaving_cost, woven

from test_folds import OTHER_KINDS, all_folds, plain_cost


def all_weavings(cloth):
    """Every weaving of a cloth, by trying all parts that it may begin with."""
    weavings = []
    for width in range(1, len(cloth) + 1):
        rests = all_weavings(cloth[width:]) if width < len(cloth) else [[]]
        weavings.extend([first] + rest for first in all_parts(cloth[:width]) for rest in rests)
    return weavings


def all_parts(cloth):
    parts = [("rows", len(cloth), fold) for fold in all_folds(cloth[0])] if len(set(cloth)) == 1 else []
    for k in range(2, len(cloth) + 1):
        width = len(cloth) // k
        if width * k == len(cloth) and cloth[:width] * k == cloth:
            parts.extend(("again", k, weaving) for weaving in all_weavings(cloth[:width]))
    return parts


def plain_weaving_cost(weaving):
    return sum(1 + (plain_cost(part[2]) if part[0] == "rows" else plain_weaving_cost(part[2])) for part in weaving)


A = [("run", "a", 1)]
AB = [("run", "a", 1), ("run", "b", 1)]
BB = [("run", "b", 2)]


class Unwoven(unittest.TestCase):
    def test_by_hand(self):
        self.assertEqual(unwoven([("rows", 1, A)]), ("a",))
        self.assertEqual(unwoven([("rows", 3, AB)]), ("ab", "ab", "ab"))
        self.assertEqual(unwoven([("rows", 1, AB), ("rows", 2, BB)]), ("ab", "bb", "bb"))
        self.assertEqual(unwoven([("again", 2, [("rows", 1, AB), ("again", 2, [("rows", 1, BB)])])]),
                         ("ab", "bb", "bb", "ab", "bb", "bb"))
        self.assertEqual(unwoven([("rows", 24, [("run", "q", 24)])]), ("q" * 24,) * 24)

    def test_cost(self):
        self.assertEqual(weaving_cost([("rows", 24, A)]), 2)
        self.assertEqual(weaving_cost([("rows", 1, AB), ("rows", 2, BB)]), 5)
        self.assertEqual(weaving_cost([("again", 2, [("rows", 1, AB), ("again", 2, [("rows", 1, BB)])])]), 7)
        self.assertEqual(weaving_cost([("rows", 1, [("again", 2, AB)])]), 4)

    def test_what_is_handed_in_stays(self):
        weaving = [("again", 2, [("rows", 1, [("again", 2, list(AB))])])]
        unwoven(weaving), weaving_cost(weaving), shown_weaving(weaving)
        self.assertEqual(weaving, [("again", 2, [("rows", 1, [("again", 2, AB)])])])


class Woven(unittest.TestCase):
    def check(self, cloth, least):
        weaving = woven(cloth)
        self.assertIsInstance(weaving, list)
        self.assertEqual(unwoven(weaving), cloth)
        self.assertEqual((cloth, plain_weaving_cost(weaving)), (cloth, least))
        self.assertEqual(weaving_cost(weaving), least)
        self.assertEqual(read_weaving(shown_weaving(weaving)), weaving)

    def test_by_trying_all(self):
        for rows, many in ((("a", "b"), 6), (("aa", "ab", "ba"), 4), (("aab", "aba"), 4), (("aaaa", "abab", "abba"),
                                                                                           3)):
            for k in range(1, many + 1):
                for cloth in itertools.product(rows, repeat=k):
                    self.check(cloth, min(plain_weaving_cost(weaving) for weaving in all_weavings(cloth)))

    def test_by_hand(self):
        for cloth, least in (
            (("a",), 2),
            (("a",) * 24, 2),
            (("a" * 24,), 2),
            (("a" * 24,) * 24, 2),
            (("ab" * 12,) * 24, 4),
            (("ab" * 12, "ba" * 12) * 12, 9),
            (("ab", "cd"), 6),
            (("ab", "cd") * 2, 7),
            (("a", "b") * 12, 5),
            ((("a",) * 2 + ("b",)) * 8, 5),
            (tuple("abcdefghijklmnopqrstuvwx"), 48),
        ):
            with self.subTest(cloth):
                self.check(cloth, least)

    def test_blocks_within_blocks(self):
        inner = ("ab", "aa") * 2 + ("bb",)
        self.check((inner * 2 + ("ba",)) * 2, 13)

    def test_large_ones_unweave_to_themselves(self):
        chance = random.Random(9)
        for k in range(12):
            rows = ["".join(chance.choice("ab") for c in range(24)) for r in range(chance.randrange(1, 5))]
            cloth = tuple(chance.choice(rows) for r in range(24))
            self.assertEqual(unwoven(woven(cloth)), cloth)

    def test_the_weaving_is_the_askers_own_in_all_its_parts(self):
        cloth = ("abab", "aaaa", "abab")
        weaving = woven(cloth)
        weaving[0][2].clear()
        self.assertEqual(unwoven(weaving[1:]), cloth[1:])
        self.assertEqual(unwoven(woven(cloth)), cloth)


class Written(unittest.TestCase):
    def test_by_hand(self):
        for weaving, text in (
            ([("rows", 1, A)], "[a]"),
            ([("rows", 2, AB)], "[a b]2"),
            ([("rows", 24, [("again", 2, AB)])], "[(a b)2]24"),
            ([("rows", 1, AB), ("rows", 3, BB)], "[a b] [b2]3"),
            ([("again", 2, [("rows", 1, AB)])], "{[a b]}2"),
            ([("rows", 1, BB), ("again", 3, [("again", 2, [("rows", 2, AB)]), ("rows", 1, BB)])],
             "[b2] {{[a b]2}2 [b2]}3"),
        ):
            with self.subTest(text):
                self.assertEqual(shown_weaving(weaving), text)
                self.assertEqual(read_weaving(text), weaving)

    def test_read_is_what_was_written(self):
        for rows, many in ((("a", "b"), 4), (("ab", "aa"), 4)):
            for k in range(1, many + 1):
                for cloth in itertools.product(rows, repeat=k):
                    for weaving in all_weavings(cloth):
                        self.assertEqual(read_weaving(shown_weaving(weaving)), weaving)

    def refused(self, text):
        with self.subTest(text):
            with self.assertRaises(NoWeaving) as refused:
                read_weaving(text)
            self.assertIsInstance(refused.exception, CarpetError)

    def test_none(self):
        for text in ("", " ", "a", "(a)2", "[]", "[]2", "[ ]", "[a]1", "[a]0", "[a]01", "[a]02", "{[a]}", "{[a]}1",
                     "{[a]}0",
                     "{[a]}02", "{}2", "{ }2", "{a}2", "{[]}2", " [a]", "[a] ", "[a]  [b]", "[a][b]", "[a]2[b]",
                     "[a] 2",
                     "[ a]", "[a ]", "{ [a]}2", "{[a] }2", "{[a]} 2", "{[a]}2{[a]}2", "[a", "a]", "[[a]]", "{[a]",
                     "[a]}2",
                     "{[a]2", "{[a)}2", "([a])2", "[{a}2]", "[a1]", "[(a)1]", "[()2]", "[a/b]", "[a] b", "[A]",
                     "[a]\n", "\n",
                     "{[a]]2", "[a]-1", "[a]x", "[a],[b]", "2", "]", "}", "}2"):
            self.refused(text)

    def test_rows_of_unlike_lengths(self):
        for text in ("[a] [b2]", "[a b] [a]", "{[a] [b2]}2", "[a2] {[a]}2", "{{[a]}2 [a b]}2", "[a] [a] [a2]",
                     "[(a b)2] [a3]"):
            self.refused(text)
        for text in ("[a2] [a b]", "[(a b)2] [a4]", "{[a2] [(a)2]}2"):
            self.assertEqual(shown_weaving(read_weaving(text)), text)

    def test_24_and_25_rows_and_knots(self):
        for text in ("[a]24", "{[a]}24", "{[a]2 [b]}8", "[a]12 {[b]3}4", "[a24]24", "{{[a]2}3}4",
                     " ".join(["[a]"] * 24)):
            self.assertEqual(len(unwoven(read_weaving(text))), 24)
        for text in ("[a]25", "{[a]}25", "{[a]2 [b]}8 [a]", "[a] [b]24", "{{[a]2}3}5", "[a25]", "[(a b)13]",
                     "[a]" + "9" * 5000,
                     "{[a]}" + "9" * 5000, "[a" + "9" * 5000 + "]", " ".join(["[a]"] * 25), "{{{{{[a]}2}2}2}2}2"):
            self.refused(text)

    def test_agains_within_one_another(self):
        self.assertEqual(unwoven(read_weaving("{{{{[((((a)2)2)2)2]}2}2}2}2")), ("a" * 16,) * 16)
        for deep in (5, 12, 13, 300, 5000):
            self.refused("{" * deep + "[a]" + "}2" * deep)
            self.refused("[" + "(" * deep + "a" + ")2" * deep + "]")
            self.refused("{" * deep)

    def test_handed_in_twelve_agains_deep(self):
        weaving = [("rows", 1, A)]
        for k in range(12):
            weaving = [("again", 2, weaving)]
        self.assertEqual(unwoven(weaving), ("a",) * 4096)
        self.assertEqual(weaving_cost(weaving), 14)
        self.assertEqual(shown_weaving(weaving), "{" * 12 + "[a]" + "}2" * 12)

    def test_other_kinds(self):
        for thing in OTHER_KINDS:
            self.refused(thing)

    def test_what_is_read_is_the_askers_own(self):
        read_weaving("{[a b]}2")[0][2].clear()
        self.assertEqual(unwoven(read_weaving("{[a b]}2")), ("ab", "ab"))


if __name__ == "__main__":
    unittest.main()
