import unittest

from carpetkin.fewest import few_of, row_to, rows_to
from carpetkin.groups import made
from carpetkin.leaving import leaving
from carpetkin.movements import all_movements, then

from carpets import DRAWN, some_carpets

STAY = ("stay", 0, 0)
CLOSED = [(side, all_movements(side)) for side in range(1, 9)]
CLOSED += [(len(carpet), leaving(carpet)) for carpet in (*DRAWN, *some_carpets(2, "ab", 12), *some_carpets(3, "ab",
                                                                                                           20))]
LISTS = (
    (1, []), (3, []), (2, [STAY]), (2, [STAY, STAY, ("turn", 0, 1)]), (4, [("side", 1, 0), ("side", 1, 0)]),
    (5, [("stay", 1, 3), ("turn", 0, 0)]), (6, [("flip", 0, 1), STAY, ("stay", 2, 2), ("half", 1, 0)]),
    (8, [("stay", 0, 1), ("stay", 1, 0)]), (7, [("turn", 3, 4), ("cross", 1, 6)]), (8, [("stay", 0, 1)]),
)


def few_plainly(side, movements):
    few = []
    for movement in sorted(movements):
        if movement not in made(side, few):
            few.append(movement)
    return few


class Few(unittest.TestCase):
    def test_stay_alone(self):
        for side in range(1, 9):
            self.assertEqual(few_of(side, [STAY]), [])

    def test_by_hand(self):
        self.assertEqual(few_of(1, all_movements(1)), [("back", 0, 0), ("cross", 0, 0)])
        self.assertEqual(few_of(2, [STAY, ("stay", 0, 1), ("stay", 1, 0), ("stay", 1, 1)]), [("stay", 0, 1), ("stay",
                                                                                                              1, 0)])
        self.assertEqual(few_of(3, [STAY, ("stay", 0, 1), ("stay", 0, 2)]), [("stay", 0, 1)])

    def test_gone_through_from_the_first_on(self):
        for side, movements in CLOSED:
            if len(movements) <= 128:
                wanted = few_plainly(side, movements)
                self.assertEqual(few_of(side, movements), wanted)
                self.assertEqual(few_of(side, movements[::-1]), wanted)

    def test_they_make_the_list_and_none_is_made_by_those_ahead(self):
        for side, movements in CLOSED:
            few = few_of(side, movements)
            self.assertIsInstance(few, list)
            self.assertEqual(made(side, few), movements)
            self.assertLessEqual(len(few), 9)
            for k, movement in enumerate(few):
                self.assertNotIn(movement, made(side, few[:k]))

    def test_nothing_is_changed_or_kept(self):
        movements = all_movements(2)[::-1]
        few_of(2, movements).clear()
        self.assertEqual(movements, all_movements(2)[::-1])
        self.assertEqual(few_of(2, movements), few_plainly(2, movements))


class Rows(unittest.TestCase):
    def done(self, side, movements, row):
        come = STAY
        for place in row:
            come = then(side, come, movements[place])
        return come

    def test_each_row_leads_to_its_movement(self):
        for side, movements in (*CLOSED, *LISTS):
            rows = rows_to(side, movements)
            told = made(side, movements)
            self.assertIsInstance(rows, dict)
            self.assertEqual(sorted(rows), told)
            for movement, row in rows.items():
                self.assertIsInstance(row, list)
                self.assertEqual(self.done(side, movements, row), movement)
                self.assertLessEqual(len(row), len(told))
            self.assertEqual(rows[STAY], [])

    def test_one_row(self):
        for side, movements in LISTS:
            for movement in made(side, movements):
                row = row_to(side, movements, movement)
                self.assertEqual(self.done(side, movements, row), movement)
                self.assertLessEqual(len(row), len(made(side, movements)))
            self.assertEqual(row_to(side, movements, STAY), [])

    def test_what_is_told_may_be_changed(self):
        movements = [("stay", 0, 1), ("turn", 0, 0)]
        wanted = {movement: list(row) for movement, row in rows_to(3, movements).items()}
        told = rows_to(3, movements)
        for movement in sorted(told):
            told[movement].append(7)
            for other in told:
                if other != movement:
                    self.assertEqual(len(told[other]) - len(wanted[other]), 1 if other < movement else 0)
        row_to(3, movements, ("half", 0, 0)).clear()
        told.clear()
        self.assertEqual(rows_to(3, movements), wanted)
        self.assertEqual(row_to(3, movements, ("half", 0, 0)), wanted["half", 0, 0])
        self.assertEqual(movements, [("stay", 0, 1), ("turn", 0, 0)])


if __name__ == "__main__":
    unittest.main()
