import unittest

from carpetkin.colours import colours_of
from carpetkin.groups import made
from carpetkin.kinds import bends_of, kind, kind_of, loose_of, mirrors_of, turn_of
from carpetkin.leaving import leaving
from carpetkin.movements import all_movements, moved

from carpets import DRAWN, carpets_of, some_carpets

BENDING = ("cross", "flip", "other", "side")
EACH = {
    "p1": ("aca", "bac", "bbc"),
    "pg": ("baaa", "baba", "aaab", "abab"),
    "pm": ("bba", "aab", "aaa"),
    "cm": ("aaa", "baa", "bba"),
    "p2": ("bba", "bab", "aaa"),
    "pgg": ("cbaa", "aacb", "abca", "caab"),
    "pmg": ("aaba", "abaa", "aaba", "abaa"),
    "pmm": ("aa", "bb"),
    "cmm": ("aab", "aba", "baa"),
    "p4": ("accc", "aaac", "aaca", "cacc"),
    "p4m": ("a",),
    "p4g": ("abbb", "babb", "bbba", "bbab"),
}
CARPETS = (*EACH.values(), *DRAWN, *carpets_of(2, "abc"), *carpets_of(3, "ab")[::5], *some_carpets(4, "ab", 30))
STAY = ("stay", 0, 0)


def wides(n):
    return [(way, down, right) for way in BENDING for down in range(2 * n) for right in range(2 * n)]


def is_mirror(n, wide):
    way, down, right = wide
    return {"side": down == 0, "flip": right == 0, "cross": down + right in (0, 2 * n), "other": down == right}[way]


def stand(n, wide):
    way, down, right = wide
    if way == "side":
        return (way, 0, right % n)
    if way == "flip":
        return (way, down % n, 0)
    if (down + right) % 2:
        return None
    half = (down - right) // 2 if way == "cross" else (down + right) // 2
    return (way, half % n, -half % n) if way == "cross" else (way, half % n, half % n)


def paper_plainly(n, movements):
    ways = {movement[0] for movement in movements}
    turn = 4 if "turn" in ways else 2 if "half" in ways else 1
    within = [wide for wide in wides(n) if (wide[0], wide[1] % n, wide[2] % n) in movements]
    mirrors = []
    for way in BENDING:
        mirrors += sorted(wide for wide in within if wide[0] == way and is_mirror(n, wide))[:1]
    loose = sorted(wide for wide in within if stand(n, wide) is None or stand(n, wide) not in movements)
    return (turn, sorted(ways & set(BENDING)), mirrors, loose[0] if loose else None)


class Paper(unittest.TestCase):
    def test_turn(self):
        self.assertEqual(turn_of([STAY]), 1)
        self.assertEqual(turn_of([("side", 0, 0), STAY]), 1)
        self.assertEqual(turn_of([("half", 1, 0), STAY]), 2)
        self.assertEqual(turn_of(made(3, [("turn", 1, 0)])), 4)
        self.assertEqual(turn_of(all_movements(5)), 4)

    def test_bends(self):
        self.assertEqual(bends_of([STAY, ("turn", 0, 0)]), [])
        self.assertEqual(bends_of([("side", 0, 0), STAY, ("side", 0, 1)]), ["side"])
        self.assertEqual(bends_of(all_movements(2)), ["cross", "flip", "other", "side"])

    def test_mirrors_by_hand(self):
        self.assertEqual(mirrors_of(4, [("side", 0, 3), STAY]), [("side", 0, 3)])
        self.assertEqual(mirrors_of(4, made(4, [("side", 2, 3)])), [])
        self.assertEqual(mirrors_of(3, [("cross", 1, 2), STAY]), [("cross", 1, 5)])
        self.assertEqual(mirrors_of(1, all_movements(1)), [(way, 0, 0) for way in BENDING])
        self.assertEqual(mirrors_of(4, [STAY]), [])

    def test_loose_by_hand(self):
        self.assertIsNone(loose_of(4, [STAY]))
        self.assertIsNone(loose_of(4, [("side", 0, 3), STAY]))
        self.assertEqual(loose_of(4, made(4, [("side", 2, 3)])), ("side", 2, 3))
        self.assertEqual(loose_of(1, all_movements(1)), ("cross", 0, 1))
        self.assertEqual(loose_of(3, [("other", 2, 2), STAY]), ("other", 2, 5))

    def test_against_the_plain_reading(self):
        for carpet in CARPETS:
            n = len(carpet)
            left = leaving(carpet)
            wanted = paper_plainly(n, left)
            self.assertEqual((turn_of(left), bends_of(left), mirrors_of(n, left), loose_of(n, left)), wanted)
            self.assertEqual(kind(carpet), (kind_of(n, left), wanted))
        for n in (1, 2, 3, 4):
            for one in all_movements(n)[::3]:
                for other in (STAY, ("half", 0, n - 1), ("flip", n - 1, 0), ("cross", 0, n - 1)):
                    group = made(n, [one, other])
                    told = (turn_of(group), bends_of(group), mirrors_of(n, group), loose_of(n, group))
                    self.assertEqual(told, paper_plainly(n, group))

    def test_nothing_is_changed_or_kept(self):
        movements = all_movements(2)[::-1]
        bends_of(movements).clear()
        mirrors_of(2, movements).clear()
        paper = kind(("ab", "ba"))[1]
        paper[1].clear()
        paper[2].clear()
        self.assertEqual(movements, all_movements(2)[::-1])
        self.assertEqual(kind(("ab", "ba"))[1], paper_plainly(2, leaving(("ab", "ba"))))
        self.assertEqual(mirrors_of(2, movements), mirrors_of(2, all_movements(2)))


class Kinds(unittest.TestCase):
    def test_each_of_the_twelve(self):
        for word, carpet in EACH.items():
            with self.subTest(word):
                told = kind(carpet)
                self.assertIsInstance(told, tuple)
                self.assertEqual(told[0], word)
                self.assertEqual(kind_of(len(carpet), leaving(carpet)), word)

    def test_the_table(self):
        for carpet in CARPETS:
            turn, bends, mirrors, loose = paper_plainly(len(carpet), leaving(carpet))
            if turn == 1:
                word = "p1" if not bends else "pg" if not mirrors else "pm" if loose is None else "cm"
            elif turn == 2:
                word = "p2" if not bends else "pgg" if not mirrors else "pmg" if len(mirrors) == 1 else None
                word = word or ("pmm" if loose is None else "cmm")
            else:
                word = "p4" if not bends else "p4m" if len(mirrors) == 4 else "p4g"
            self.assertEqual(kind(carpet)[0], word)

    def test_a_moved_carpet(self):
        for word, carpet in EACH.items():
            for movement in all_movements(len(carpet)):
                self.assertEqual(kind(moved(carpet, movement))[0], word)

    def test_colours_exchanged(self):
        for carpet in CARPETS:
            colours = colours_of(carpet)
            others = dict(zip(colours, reversed("mnopqrstuvwxyzabcd"[:len(colours)])))
            self.assertEqual(kind(tuple("".join(others[x] for x in row) for row in carpet)), kind(carpet))

    def test_laid_twice_to_the_right_and_below(self):
        for carpet in (*EACH.values(), *DRAWN[:15], *carpets_of(2, "abc")[::3], *carpets_of(3, "ab")[::17]):
            twice = tuple(row * 2 for row in carpet) * 2
            self.assertEqual(kind(twice)[0], kind(carpet)[0], carpet)


if __name__ == "__main__":
    unittest.main()
