import itertools
import unittest

from carpetkin.groups import made
from carpetkin.movements import all_movements, is_movement, taken_back, then

STAY = ("stay", 0, 0)


def made_plainly(side, movements):
    come = {STAY}
    while True:
        more = come | {then(side, one, other) for one in come for other in movements}
        if more == come:
            return sorted(come)
        come = more


class Made(unittest.TestCase):
    def test_of_no_movement(self):
        for side in range(1, 9):
            self.assertEqual(made(side, []), [STAY])
            self.assertEqual(made(side, [STAY]), [STAY])

    def test_of_one(self):
        self.assertEqual(made(3, [("stay", 0, 1)]), [STAY, ("stay", 0, 1), ("stay", 0, 2)])
        self.assertEqual(made(2, [("side", 1, 0)]), [("side", 1, 0), STAY])
        self.assertEqual(made(1, [("turn", 0, 0)]), [("back", 0, 0), ("half", 0, 0), STAY, ("turn", 0, 0)])

    def test_of_one_twice(self):
        for side in range(1, 5):
            for movement in all_movements(side):
                self.assertEqual(made(side, [movement, movement]), made(side, [movement]))

    def test_all_movements(self):
        for side in range(1, 9):
            few = [("stay", 0, 1 % side), ("turn", 0, 0), ("side", 0, 0)]
            self.assertEqual(made(side, few), all_movements(side))
            self.assertEqual(made(side, all_movements(side)), all_movements(side))

    def test_against_the_plain_reading(self):
        for side in (1, 2):
            for pair in itertools.product(all_movements(side), repeat=2):
                self.assertEqual(made(side, list(pair)), made_plainly(side, pair))
        for side in (3, 4, 6):
            movements = all_movements(side)
            for k in range(0, len(movements) - 40, 11):
                some = [movements[k], movements[k + 23], movements[k + 37]]
                self.assertEqual(made(side, some), made_plainly(side, some))

    def test_sorted_each_once_and_taken_back(self):
        for side in range(1, 6):
            for movement in all_movements(side):
                told = made(side, [movement, ("flip", 0, side - 1)])
                self.assertIsInstance(told, list)
                self.assertEqual(told, sorted(set(told)))
                self.assertIn(STAY, told)
                for one in told:
                    self.assertTrue(is_movement(side, one))
                    self.assertIn(taken_back(side, one), told)

    def test_order_of_the_list_is_all_the_same(self):
        some = [("cross", 1, 2), ("half", 0, 3), ("stay", 2, 2)]
        for order in itertools.permutations(some):
            self.assertEqual(made(4, list(order)), made(4, some))

    def test_the_list_stays_and_what_is_told_is_the_askers_own(self):
        some = [("turn", 0, 1), ("stay", 1, 0), ("turn", 0, 1)]
        told = made(3, some)
        self.assertEqual(some, [("turn", 0, 1), ("stay", 1, 0), ("turn", 0, 1)])
        wanted = list(told)
        told.clear()
        some.append(STAY)
        self.assertEqual(made(3, [("turn", 0, 1), ("stay", 1, 0)]), wanted)


if __name__ == "__main__":
    unittest.main()
