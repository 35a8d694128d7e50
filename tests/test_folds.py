import itertools
import random
import unittest

from carpetkin.errors import CarpetError, NoFold
from carpetkin.folds import cost, folded, read_fold, shown_fold, unfolded

OTHER_KINDS = (None, True, 0, 3, b"a", ["a"], [("run", "a", 1)], ("a",), {}, object(), 1.5)


def all_folds(line):
    """Every fold of a line, by trying all parts that it may begin with."""
    folds = []
    for width in range(1, len(line) + 1):
        rests = all_folds(line[width:]) if width < len(line) else [[]]
        folds.extend([first] + rest for first in all_parts(line[:width]) for rest in rests)
    return folds


def all_parts(line):
    parts = [("run", line[0], len(line))] if len(set(line)) == 1 else []
    for k in range(2, len(line) + 1):
        width = len(line) // k
        if width * k == len(line) and line[:width] * k == line:
            parts.extend(("again", k, fold) for fold in all_folds(line[:width]))
    return parts


def plain_cost(fold):
    return sum(1 if part[0] == "run" else 1 + plain_cost(part[2]) for part in fold)


def least_costs(colours, longest):
    """The least cost of each line, found from the folds of each cost on."""
    least = {}
    by_cost = [set()]
    while len(least) < sum(len(colours) ** k for k in range(1, longest + 1)):
        price = len(by_cost)
        found = {colour * k for colour in colours for k in range(1, longest + 1)} if price == 1 else set()
        for line in by_cost[price - 1]:
            found |= {line * k for k in range(2, longest // len(line) + 1)}
        for one in range(1, price):
            found |= {a + b for a in by_cost[one] for b in by_cost[price - one] if len(a + b) <= longest}
        by_cost.append(found - set(least))
        least.update((line, price) for line in by_cost[price])
    return least


def nested(deep):
    fold = [("run", "a", 1)]
    for k in range(deep):
        fold = [("again", 2, fold)]
    return fold


class Unfolded(unittest.TestCase):
    def test_runs(self):
        self.assertEqual(unfolded([("run", "a", 1)]), "a")
        self.assertEqual(unfolded([("run", "z", 24)]), "z" * 24)
        self.assertEqual(unfolded([("run", "a", 2), ("run", "b", 1), ("run", "b", 3)]), "aabbbb")

    def test_agains(self):
        inner = [("run", "a", 2), ("run", "b", 1)]
        self.assertEqual(unfolded([("again", 3, inner)]), "aabaabaab")
        self.assertEqual(unfolded([("run", "c", 1), ("again", 2, [("again", 2, inner), ("run", "d", 1)])]),
                         "caabaabdaabaabd")
        self.assertEqual(unfolded(nested(4)), "a" * 16)
        self.assertEqual(unfolded(nested(12)), "a" * 4096)

    def test_cost_counts_the_parts_within_others(self):
        self.assertEqual(cost([("run", "a", 24)]), 1)
        self.assertEqual(cost([("run", "a", 1), ("run", "b", 1)]), 2)
        self.assertEqual(cost([("again", 3, [("run", "a", 2), ("run", "b", 1)])]), 3)
        self.assertEqual(cost([("again", 2, [("again", 2, [("run", "a", 1)]), ("run", "d", 1)]), ("run", "a", 1)]), 5)
        self.assertEqual(cost(nested(12)), 13)

    def test_what_is_handed_in_stays(self):
        fold = [("again", 2, [("run", "a", 1), ("again", 3, [("run", "b", 2)])])]
        unfolded(fold), cost(fold), shown_fold(fold)
        self.assertEqual(fold, [("again", 2, [("run", "a", 1), ("again", 3, [("run", "b", 2)])])])


class Folded(unittest.TestCase):
    def check_form(self, fold):
        self.assertIsInstance(fold, list)
        self.assertTrue(fold)
        for part in fold:
            self.assertIsInstance(part, tuple)
            self.assertEqual(len(part), 3)
            if part[0] == "run":
                self.assertGreaterEqual(part[2], 1)
            else:
                self.assertEqual(part[0], "again")
                self.assertGreaterEqual(part[1], 2)
                self.check_form(part[2])

    def check(self, line, least):
        fold = folded(line)
        self.check_form(fold)
        self.assertEqual(unfolded(fold), line)
        self.assertEqual((line, plain_cost(fold)), (line, least))
        self.assertEqual(cost(fold), least)

    def test_by_trying_all(self):
        for colours, longest in (("ab", 8), ("abc", 6)):
            for many in range(1, longest + 1):
                for signs in itertools.product(colours, repeat=many):
                    line = "".join(signs)
                    self.check(line, min(plain_cost(fold) for fold in all_folds(line)))

    def test_all_lines_of_two_colours_to_11_knots(self):
        for line, least in least_costs("ab", 11).items():
            self.check(line, least)

    def test_some_by_hand(self):
        for line, least in (("a", 1), ("a" * 24, 1), ("ab" * 12, 3), ("aab" * 8, 3), ("ababab" + "c", 4),
                            ("abcabcabc", 4),
                            ("abababcababab", 7), ("aabbaabbaabbaabbaabbaabb", 3), ("abcdefghijklmnopqrstuvwx", 24),
                            ("abababc" * 3 + "aba", 8), ("aabaabcaabaabc", 5), ("abab", 3), ("abababab" + "ba" * 8, 6)):
            with self.subTest(line):
                self.check(line, least)

    def test_repeats_within_repeats(self):
        inner = "ab" * 2 + "c"
        self.check((inner * 2 + "dd") * 2, 7)

    def test_long_lines_never_cost_more_than_their_runs(self):
        chance = random.Random(3)
        for k in range(60):
            line = "".join(chance.choice("abc") for c in range(24))
            fold = folded(line)
            self.assertEqual(unfolded(fold), line)
            self.assertLessEqual(cost(fold), len(list(itertools.groupby(line))))

    def test_the_fold_is_the_askers_own(self):
        fold = folded("ababab")
        fold[0][2].clear()
        fold.append("more")
        self.assertEqual(unfolded(folded("ababab")), "ababab")


class Written(unittest.TestCase):
    def test_by_hand(self):
        for fold, text in (
            ([("run", "a", 1)], "a"),
            ([("run", "a", 2)], "a2"),
            ([("run", "z", 24)], "z24"),
            ([("run", "a", 1), ("run", "a", 1), ("run", "b", 10)], "a a b10"),
            ([("again", 2, [("run", "a", 1)])], "(a)2"),
            ([("again", 12, [("run", "a", 1), ("run", "b", 1)])], "(a b)12"),
            ([("run", "c", 3), ("again", 2, [("again", 3, [("run", "a", 1)]), ("run", "b", 2)])], "c3 ((a)3 b2)2"),
            (nested(4), "((((a)2)2)2)2"),
        ):
            with self.subTest(text):
                self.assertEqual(shown_fold(fold), text)
                self.assertEqual(read_fold(text), fold)

    def test_read_is_what_was_written(self):
        for colours, longest in (("ab", 6), ("abc", 4)):
            for many in range(1, longest + 1):
                for signs in itertools.product(colours, repeat=many):
                    for fold in all_folds("".join(signs)):
                        self.assertEqual(read_fold(shown_fold(fold)), fold)

    def test_folded_lines(self):
        chance = random.Random(5)
        for k in range(200):
            fold = folded("".join(chance.choice("ab") for c in range(chance.randrange(1, 25))))
            self.assertEqual(read_fold(shown_fold(fold)), fold)

    def refused(self, text):
        with self.subTest(text):
            with self.assertRaises(NoFold) as refused:
                read_fold(text)
            self.assertIsInstance(refused.exception, CarpetError)

    def test_none(self):
        for text in ("", " ", "a1", "a01", "a02", "a0", "a00", "(a)", "(a)0", "(a)1", "(a)01", "(a)02", "()2", "( )2",
                     "()",
                     " a", "a ", "a  b", "ab", "a2b", "a 2", "( a)2", "(a )2", "(a) 2", "(a b)2c", "(a)2(b)2", "(a",
                     "a)",
                     "a)2", "((a)2", "(a)2)2", "(a]2", "[a]", "[a]2", "{a}2", "A", "1", "2a", "a-1", "a+2", "a2.0",
                     "a,b",
                     "a\n", "\na", "a\tb", "a/b", "a'", "(a)2\n", "`", "{", "(2", "a(b)2", "a2 (b)"):
            self.refused(text)

    def test_24_and_25_knots(self):
        for text in ("a24", "a23 b", "(a)24", "(a b)12", "(a2 b)8", "((a b)3)4", " ".join(["a"] * 24)):
            self.assertEqual(len(unfolded(read_fold(text))), 24)
        for text in ("a25", "a24 b", "a b24", "(a)25", "(a b)12 c", "(a b)13", "((a b)3)5", "a100", "a9999", "a10000",
                     "a" + "9" * 5000, "(a)" + "9" * 5000, " ".join(["a"] * 25), "(((((a)2)2)2)2)2"):
            self.refused(text)

    def test_agains_within_one_another(self):
        self.assertEqual(read_fold("((((a)2)2)2)2"), nested(4))
        for deep in (5, 12, 13, 300, 5000):
            self.refused("(" * deep + "a" + ")2" * deep)
            self.refused("(" * deep)

    def test_other_kinds(self):
        for thing in OTHER_KINDS:
            self.refused(thing)

    def test_what_is_read_is_the_askers_own(self):
        read_fold("(a b)2")[0][2].clear()
        self.assertEqual(unfolded(read_fold("(a b)2")), "abab")


if __name__ == "__main__":
    unittest.main()
