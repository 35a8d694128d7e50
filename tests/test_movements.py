import unittest

from carpetkin.cloths import turned
from carpetkin.movements import (
    WAYS, all_movements, is_movement, led, moved, order_of, taken_back, then, ways_table,
)

STAY = ("stay", 0, 0)
PLAIN = {
    "stay": lambda r, c: (r, c),
    "turn": lambda r, c: (c, -r),
    "half": lambda r, c: (-r, -c),
    "back": lambda r, c: (-c, r),
    "side": lambda r, c: (r, -c),
    "flip": lambda r, c: (-r, c),
    "cross": lambda r, c: (c, r),
    "other": lambda r, c: (-c, -r),
}
PLACES_OF_THE_PLAIN = [(r, c) for r in range(-4, 5) for c in range(-4, 5)]
CARPETS = (
    ("a",),
    ("ab", "cd"),
    ("abc", "def", "ghi"),
    ("abcd", "efgh", "ijkl", "mnop"),
)


def way_of_both(one, other):
    found = []
    for way in PLAIN:
        if all(PLAIN[way](*place) == PLAIN[other](*PLAIN[one](*place)) for place in PLACES_OF_THE_PLAIN):
            found.append(way)
    assert len(found) == 1
    return found[0]


def places_of(side):
    return [(r, c) for r in range(side) for c in range(side)]


class Anything:
    def __eq__(self, other):
        return True


class WhatIsAMovement(unittest.TestCase):
    def test_ways(self):
        self.assertEqual(WAYS, ("stay", "turn", "half", "back", "side", "flip", "cross", "other"))

    def test_numbers_from_0_to_below_the_side(self):
        for side in range(1, 9):
            for way in WAYS:
                for down in range(-2, 11):
                    for right in range(-2, 11):
                        is_one = 0 <= down < side and 0 <= right < side
                        self.assertIs(is_movement(side, (way, down, right)), is_one)

    def test_great_numbers(self):
        for far in (10 ** 30, -10 ** 30):
            self.assertIs(is_movement(8, ("stay", far, 0)), False)
            self.assertIs(is_movement(8, ("stay", 0, far)), False)

    def test_what_is_none(self):
        things = (
            None, True, 0, "stay", "stay.0.0", b"stay", 2.5, [], {}, (), set(), object(), len, Anything(),
            ["stay", 0, 0], ("stay",), ("stay", 0), ("stay", 0, 0, 0), ("stay", (0, 0)), {"stay": 0, "a": 0, "b": 0},
            ("", 0, 0), ("Stay", 0, 0), ("stay ", 0, 0), ("sta", 0, 0), ("mirror", 0, 0), ("st", 0, 0),
            (None, 0, 0), (0, 0, 0), (b"stay", 0, 0), (("stay",), 0, 0), (["stay"], 0, 0), (Anything(), 0, 0),
            ("stay", True, 0), ("stay", 0, True), ("stay", False, 0), ("stay", 0, False), ("stay", False, False),
            ("stay", 0.0, 0), ("stay", 0, 1.0), ("stay", "0", 0), ("stay", 0, "0"), ("stay", None, 0),
            ("stay", 0, None), ("stay", [0], 0), ("stay", 0, (0,)), ("stay", Anything(), 0), (0, 0, "stay"),
        )
        for side in (1, 2, 8):
            for thing in things:
                with self.subTest((side, repr(thing))):
                    self.assertIs(is_movement(side, thing), False)

    def test_all_of_a_side(self):
        for side in range(1, 9):
            movements = all_movements(side)
            wanted = [(way, down, right) for way in WAYS for down in range(side) for right in range(side)]
            self.assertIsInstance(movements, list)
            self.assertEqual(len(movements), 8 * side * side)
            self.assertEqual(movements, sorted(wanted))

    def test_the_list_is_the_askers_own(self):
        movements = all_movements(2)
        wanted = list(movements)
        movements.pop()
        movements[0] = None
        self.assertEqual(all_movements(2), wanted)


class Leading(unittest.TestCase):
    def test_by_each_way(self):
        wanted = {
            "stay": (1, 3), "turn": (3, 4), "half": (4, 2), "back": (2, 1),
            "side": (1, 2), "flip": (4, 3), "cross": (3, 1), "other": (2, 4),
        }
        for way, place in wanted.items():
            with self.subTest(way):
                self.assertEqual(led(5, (way, 0, 0), (1, 3)), place)

    def test_down_and_right(self):
        self.assertEqual(led(5, ("stay", 2, 3), (1, 3)), (3, 1))
        self.assertEqual(led(5, ("turn", 2, 3), (1, 3)), (0, 2))
        self.assertEqual(led(1, ("turn", 0, 0), (7, -7)), (0, 0))

    def test_every_place(self):
        far = 10 ** 30
        places = PLACES_OF_THE_PLAIN + [(far, 0), (0, -far), (far + 1, -far - 2), (-far, far + 5)]
        for side in range(1, 9):
            for way in WAYS:
                for down, right in ((0, 0), (side - 1, 0), (side // 2, side - 1)):
                    for place in places:
                        r, c = PLAIN[way](*place)
                        wanted = ((r + down) % side, (c + right) % side)
                        self.assertEqual(led(side, (way, down, right), place), wanted)

    def test_each_leads_the_places_one_to_one(self):
        for side in range(1, 5):
            for movement in all_movements(side):
                self.assertEqual(sorted(led(side, movement, place) for place in places_of(side)), places_of(side))


class OneAndThenTheOther(unittest.TestCase):
    def test_then_against_led(self):
        for side in range(1, 5):
            places = places_of(side)
            movements = all_movements(side)
            leads = {m: {place: led(side, m, place) for place in places} for m in movements}
            ways = {(one, other): way_of_both(one, other) for one in WAYS for other in WAYS}
            for one in movements:
                for other in movements:
                    both = then(side, one, other)
                    self.assertTrue(is_movement(side, both))
                    self.assertEqual(both[0], ways[one[0], other[0]])
                    for place in places:
                        self.assertEqual(leads[both][place], leads[other][leads[one][place]])

    def test_the_one_is_done_first(self):
        self.assertEqual(then(5, ("stay", 1, 0), ("turn", 0, 0)), ("turn", 0, 4))
        self.assertEqual(then(5, ("turn", 0, 0), ("stay", 1, 0)), ("turn", 1, 0))
        self.assertEqual(then(8, ("side", 0, 3), ("turn", 7, 2)), ("other", 2, 2))

    def test_the_way_is_told_by_the_ways_alone(self):
        for side in (1, 2):
            for one in WAYS:
                for other in WAYS:
                    both = then(side, (one, 0, 0), (other, 0, 0))
                    self.assertEqual(both, (way_of_both(one, other), 0, 0))

    def test_great_sides(self):
        for side in (5, 6, 7, 8):
            movements = all_movements(side)[::13]
            for one in movements:
                for other in movements:
                    both = then(side, one, other)
                    for place in ((0, 0), (0, 1), (1, 0), (2, 3)):
                        self.assertEqual(led(side, both, place), led(side, other, led(side, one, place)))

    def test_taken_back_behind_and_ahead(self):
        for side in range(1, 9):
            for movement in all_movements(side):
                back = taken_back(side, movement)
                self.assertTrue(is_movement(side, back))
                self.assertEqual(then(side, movement, back), STAY)
                self.assertEqual(then(side, back, movement), STAY)
                self.assertEqual(led(side, back, led(side, movement, (2, 5))), (2 % side, 5 % side))

    def test_order_of_some(self):
        self.assertEqual(order_of(1, STAY), 1)
        self.assertEqual(order_of(8, STAY), 1)
        self.assertEqual(order_of(1, ("turn", 0, 0)), 4)
        self.assertEqual(order_of(1, ("side", 0, 0)), 2)
        self.assertEqual(order_of(6, ("stay", 0, 1)), 6)
        self.assertEqual(order_of(6, ("stay", 2, 3)), 6)
        self.assertEqual(order_of(6, ("stay", 0, 4)), 3)
        self.assertEqual(order_of(8, ("side", 1, 0)), 8)
        self.assertEqual(order_of(5, ("side", 1, 0)), 10)
        self.assertEqual(order_of(5, ("half", 3, 4)), 2)

    def test_order_is_the_least(self):
        for side in range(1, 6):
            for movement in all_movements(side):
                order = order_of(side, movement)
                self.assertGreaterEqual(order, 1)
                come = [movement]
                while len(come) < order:
                    come.append(then(side, come[-1], movement))
                self.assertEqual(come[-1], STAY)
                self.assertEqual(come.count(STAY), 1)


class MovedCarpets(unittest.TestCase):
    def test_one_by_hand(self):
        self.assertEqual(moved(("abc", "def", "ghi"), ("stay", 0, 1)), ("cab", "fde", "igh"))
        self.assertEqual(moved(("abc", "def", "ghi"), ("stay", 1, 0)), ("ghi", "abc", "def"))
        self.assertEqual(moved(("abc", "def", "ghi"), ("turn", 0, 0)), ("agd", "bhe", "cif"))
        self.assertEqual(moved(("q",), ("turn", 0, 0)), ("q",))

    def test_place_by_place(self):
        for carpet in (*CARPETS, tuple("abcdefgh"[k:] + "abcdefgh"[:k] for k in (0, 3, 1, 5, 6, 2, 7, 4))):
            side = len(carpet)
            for movement in all_movements(side):
                come = moved(carpet, movement)
                self.assertIsInstance(come, tuple)
                for r, c in places_of(side):
                    place = led(side, movement, (r, c))
                    self.assertEqual(come[place[0]][place[1]], carpet[r][c])

    def test_moved_twice(self):
        for carpet in CARPETS[:3]:
            side = len(carpet)
            for one in all_movements(side):
                come = moved(carpet, one)
                for other in all_movements(side):
                    self.assertEqual(moved(come, other), moved(carpet, then(side, one, other)))

    def test_a_side_beyond_the_bound_is_not_refused(self):
        carpet = tuple("abcdefghijklmnop"[k:] + "qrstuvwxyzabcdef"[:k] for k in range(16))
        for movement in all_movements(16)[::37]:
            come = moved(carpet, movement)
            for r, c in places_of(16):
                place = led(16, movement, (r, c))
                self.assertEqual(come[place[0]][place[1]], carpet[r][c])

    def test_moved_as_cloths_are_turned(self):
        last = {"stay": (0, 0), "turn": (0, 1), "half": (1, 1), "back": (1, 0),
                "side": (0, 1), "flip": (1, 0), "cross": (0, 0), "other": (1, 1)}
        for carpet in CARPETS:
            far = len(carpet) - 1
            for way, (down, right) in last.items():
                self.assertEqual(moved(carpet, (way, down * far, right * far)), turned(carpet, way))


class TableOfWays(unittest.TestCase):
    def test_all_pairs(self):
        wanted = {(one, other): way_of_both(one, other) for one in WAYS for other in WAYS}
        self.assertEqual(len(wanted), 64)
        self.assertEqual(ways_table(), wanted)

    def test_some_by_hand(self):
        table = ways_table()
        self.assertEqual(table["turn", "turn"], "half")
        self.assertEqual(table["turn", "back"], "stay")
        self.assertEqual(table["cross", "half"], "other")
        self.assertEqual(table["side", "turn"], "other")
        self.assertEqual(table["turn", "side"], "cross")

    def test_a_changed_table_is_told_alike_again(self):
        table = ways_table()
        wanted = dict(table)
        table["stay", "stay"] = "turn"
        table["more"] = "less"
        self.assertEqual(ways_table(), wanted)


if __name__ == "__main__":
    unittest.main()
