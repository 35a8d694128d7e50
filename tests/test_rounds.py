import unittest

from carpetkin.circles import circles
from carpetkin.leaving import leaves
from carpetkin.movements import all_movements, led, moved
from carpetkin.rounds import count_of, left_by, rounds

from carpets import carpets_of

LETTERS = "abcdefghijklmnopqrstuvwxyz"


class Rounds(unittest.TestCase):
    def test_by_hand(self):
        self.assertEqual(rounds(1, ("turn", 0, 0)), [[(0, 0)]])
        self.assertEqual(rounds(2, ("stay", 0, 0)), [[(0, 0)], [(0, 1)], [(1, 0)], [(1, 1)]])
        self.assertEqual(rounds(2, ("stay", 0, 1)), [[(0, 0), (0, 1)], [(1, 0), (1, 1)]])
        self.assertEqual(rounds(3, ("stay", 0, 2)), [[(r, 0), (r, 2), (r, 1)] for r in range(3)])
        self.assertEqual(rounds(3, ("turn", 0, 0)),
                         [[(0, 0)], [(0, 1), (1, 0), (0, 2), (2, 0)], [(1, 1), (1, 2), (2, 2), (2, 1)]])

    def test_as_they_are_told(self):
        for side in range(1, 9):
            for movement in all_movements(side):
                told = rounds(side, movement)
                self.assertIsInstance(told, list)
                self.assertEqual(told, sorted(told))
                self.assertEqual(sorted(sum(told, [])), [(r, c) for r in range(side) for c in range(side)])
                for places in told:
                    self.assertIsInstance(places, list)
                    self.assertEqual(places[0], min(places))
                    for k, place in enumerate(places):
                        self.assertEqual(led(side, movement, place), places[(k + 1) % len(places)])

    def test_left_just_where_each_round_has_one_colour(self):
        for carpet in carpets_of(2, "ab") + carpets_of(3, "ab")[::9]:
            for movement in all_movements(len(carpet)):
                alike = all(len({carpet[r][c] for r, c in places}) == 1 for places in rounds(len(carpet), movement))
                self.assertEqual(leaves(carpet, movement), alike)

    def test_the_lists_are_the_askers_own(self):
        told = rounds(2, ("stay", 0, 1))
        told[0].clear()
        told.clear()
        self.assertEqual(rounds(2, ("stay", 0, 1)), [[(0, 0), (0, 1)], [(1, 0), (1, 1)]])


class Count(unittest.TestCase):
    def test_one_by_one(self):
        for side, most in ((1, 26), (2, 5), (3, 2)):
            for colours in range(1, most + 1):
                forms = set()
                for carpet in carpets_of(side, LETTERS[:colours]):
                    forms.add(min(moved(carpet, movement) for movement in all_movements(side)))
                self.assertEqual(count_of(side, colours), len(forms))

    def test_one_colour(self):
        for side in range(1, 9):
            self.assertEqual(count_of(side, 1), 1)

    def test_great_ones(self):
        for side in range(1, 9):
            for colours in (2, 26):
                sums = sum(colours ** len(rounds(side, movement)) for movement in all_movements(side))
                self.assertEqual(count_of(side, colours) * 8 * side * side, sums)
        self.assertEqual(count_of(3, 2), 26)
        self.assertEqual(count_of(2, 4), 55)
        self.assertEqual(count_of(4, 2), 805)
        self.assertEqual(count_of(8, 2), 36028817512382026)
        self.assertGreater(count_of(8, 26), 26 ** 64 // 512)


class LeftBy(unittest.TestCase):
    def test_no_movement(self):
        self.assertEqual(left_by(1, 26, []), 26)
        self.assertEqual(left_by(3, 2, []), 512)
        self.assertEqual(left_by(8, 26, []), 26 ** 64)

    def test_one_by_one(self):
        for side, colours in ((1, 3), (2, 3), (3, 2)):
            carpets = carpets_of(side, LETTERS[:colours])
            movements = all_movements(side)
            for k in range(0, len(movements), 3):
                for wish in ([movements[k]], [movements[k], movements[k // 2]], [movements[k], movements[-1],
                                                                                 movements[k]]):
                    many = sum(all(leaves(carpet, movement) for movement in wish) for carpet in carpets)
                    self.assertEqual(left_by(side, colours, wish), many)

    def test_by_circles(self):
        wish = [("turn", 0, 3), ("stay", 2, 2)]
        self.assertEqual(left_by(8, 5, wish), 5 ** len(circles(8, wish)))
        self.assertEqual(left_by(8, 7, all_movements(8)), 7)
        self.assertEqual(wish, [("turn", 0, 3), ("stay", 2, 2)])


if __name__ == "__main__":
    unittest.main()
