import itertools
import random
import unittest

from carpetkin.circles import circles, grown, seeds
from carpetkin.groups import made
from carpetkin.leaving import leaves, leaving
from carpetkin.movements import all_movements, led

from carpets import DRAWN, carpets_of, some_carpets

LISTS = (
    (1, []), (2, []), (3, []), (8, []), (3, [("stay", 0, 0)]), (3, [("stay", 0, 1)]), (4, [("turn", 0, 0)]),
    (4, [("half", 1, 0), ("side", 0, 3)]), (5, [("cross", 2, 3), ("stay", 1, 1)]), (6, [("stay", 2, 3), ("flip", 1,
                                                                                                         0)]),
    (2, [("turn", 1, 0), ("turn", 1, 0)]), (8, [("turn", 3, 4), ("stay", 4, 4)]), (3, all_movements(3)),
)


def circles_plainly(side, movements):
    places = [(r, c) for r in range(side) for c in range(side)]
    group = made(side, movements)
    return sorted({tuple(sorted({led(side, movement, place) for movement in group})) for place in places})


class Circles(unittest.TestCase):
    def test_of_no_movement(self):
        self.assertEqual(circles(1, []), [[(0, 0)]])
        self.assertEqual(circles(2, []), [[(0, 0)], [(0, 1)], [(1, 0)], [(1, 1)]])

    def test_of_one(self):
        self.assertEqual(circles(2, [("stay", 0, 1)]), [[(0, 0), (0, 1)], [(1, 0), (1, 1)]])
        self.assertEqual(circles(2, [("side", 1, 0)]), [[(0, 0), (1, 0)], [(0, 1), (1, 1)]])
        self.assertEqual(circles(3, [("turn", 0, 0)]),
                         [[(0, 0)], [(0, 1), (0, 2), (1, 0), (2, 0)], [(1, 1), (1, 2), (2, 1), (2, 2)]])

    def test_of_several(self):
        self.assertEqual(circles(2, [("stay", 0, 1), ("stay", 1, 0)]), [[(0, 0), (0, 1), (1, 0), (1, 1)]])
        self.assertEqual(circles(3, all_movements(3)), [[(r, c) for r in range(3) for c in range(3)]])

    def test_against_the_plain_reading(self):
        for side, movements in LISTS:
            self.assertEqual(circles(side, movements), [list(circle) for circle in circles_plainly(side, movements)])
        for side in (1, 2, 3):
            for pair in itertools.product(all_movements(side)[::3], all_movements(side)):
                wanted = [list(circle) for circle in circles_plainly(side, list(pair))]
                self.assertEqual(circles(side, list(pair)), wanted)

    def test_form(self):
        for side, movements in LISTS:
            told = circles(side, movements)
            self.assertIsInstance(told, list)
            self.assertEqual(told, sorted(told))
            for circle in told:
                self.assertIsInstance(circle, list)
                self.assertEqual(circle, sorted(set(circle)))
            self.assertEqual(sorted(sum(told, [])), [(r, c) for r in range(side) for c in range(side)])

    def test_nothing_is_changed_or_kept(self):
        movements = [("turn", 0, 0), ("stay", 0, 1)]
        wanted = circles(3, movements)
        told = circles(3, movements)
        told[0].clear()
        told.clear()
        self.assertEqual(circles(3, movements), wanted)
        self.assertEqual(movements, [("turn", 0, 0), ("stay", 0, 1)])


class Seeds(unittest.TestCase):
    def test_by_hand(self):
        self.assertEqual(seeds(("qq", "qq")), [((0, 0), "q")])
        self.assertEqual(seeds(("ab", "ba")), [((0, 0), "a"), ((0, 1), "b")])
        self.assertEqual(seeds(("ab", "ab")), [((0, 0), "a"), ((0, 1), "b")])
        self.assertEqual(seeds(("aaa", "aba", "aaa")), [((0, 0), "a"), ((0, 1), "a"), ((1, 1), "b")])

    def test_one_for_each_circle(self):
        for carpet in (*DRAWN, *carpets_of(2, "abc"), *some_carpets(3, "ab", 40), *some_carpets(4, "abc", 10)):
            n = len(carpet)
            left = leaving(carpet)
            told = seeds(carpet)
            self.assertEqual(told, [(circle[0], carpet[circle[0][0]][circle[0][1]]) for circle in circles(n, left)])
            self.assertEqual(grown(n, left, told), carpet)
            self.assertEqual(grown(n, left, told[::-1]), carpet)


class Grown(unittest.TestCase):
    def test_by_hand(self):
        self.assertEqual(grown(2, [("stay", 0, 1)], [((0, 0), "x"), ((1, 0), "y")]), ("xx", "yy"))
        self.assertEqual(grown(2, [], [((0, 0), "a"), ((0, 1), "b"), ((1, 0), "c"), ((1, 1), "d")]), ("ab", "cd"))

    def test_a_seed_at_any_place_of_its_circle(self):
        for side, movements in LISTS:
            found = circles(side, movements)
            colours = ["abcdefgh"[k % 8] for k in range(len(found))]
            first = grown(side, movements, [(circle[0], x) for circle, x in zip(found, colours)])
            last = grown(side, movements, [(circle[-1], x) for circle, x in zip(found, colours)])
            self.assertEqual(first, last)

    def test_each_choice_is_left_as_it_is(self):
        chance = random.Random(4)
        for side, movements in LISTS:
            for k in range(5):
                found = circles(side, movements)
                colours = [chance.choice("abc") for circle in found]
                some = [(circle[0], colour) for circle, colour in zip(found, colours)]
                carpet = grown(side, movements, some)
                for circle, colour in zip(found, colours):
                    self.assertEqual({carpet[r][c] for r, c in circle}, {colour})
                for movement in movements:
                    self.assertTrue(leaves(carpet, movement))
                self.assertEqual(some, [(circle[0], colour) for circle, colour in zip(found, colours)])

    def test_the_choices_are_just_the_carpets_left(self):
        for movements in ([("stay", 1, 0)], [("turn", 0, 1)], [("side", 0, 0), ("half", 1, 1)], []):
            found = circles(2, movements)
            choices = itertools.product("ab", repeat=len(found))
            come = [grown(2, movements, [(circle[0], x) for circle, x in zip(found, choice)]) for choice in choices]
            wanted = [carpet for carpet in carpets_of(2, "ab") if all(leaves(carpet, m) for m in movements)]
            self.assertEqual(sorted(come), sorted(wanted))


if __name__ == "__main__":
    unittest.main()
