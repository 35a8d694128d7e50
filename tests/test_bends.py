import unittest

from carpetkin.bends import is_mirror, stand_of
from carpetkin.movements import is_movement

from test_movements import PLAIN

BENDING = ("cross", "flip", "other", "side")
SIDES = (1, 2, 3, 4, 5, 8)


def wides(n):
    return [(way, down, right) for way in BENDING for down in range(2 * n) for right in range(2 * n)]


def done(way, down, right, place):
    r, c = PLAIN[way](*place)
    return (r + down, c + right)


def undoes_itself(way, down, right):
    return all(done(way, down, right, done(way, down, right, place)) == place for place in ((0, 0), (3, 5), (-2, 7)))


class Mirrors(unittest.TestCase):
    def test_by_hand(self):
        for n in SIDES:
            self.assertIs(is_mirror(n, ("side", 0, 2 * n - 1)), True)
            self.assertIs(is_mirror(n, ("side", n, 0)), False)
            self.assertIs(is_mirror(n, ("flip", 2 * n - 1, 0)), True)
            self.assertIs(is_mirror(n, ("flip", 0, n)), False)
            self.assertIs(is_mirror(n, ("cross", 0, 0)), True)
            self.assertIs(is_mirror(n, ("cross", 1, 2 * n - 1)), True)
            self.assertIs(is_mirror(n, ("cross", 0, 1)), False)
            self.assertIs(is_mirror(n, ("cross", n, 0)), False)
            self.assertIs(is_mirror(n, ("other", 0, 0)), True)
            self.assertIs(is_mirror(n, ("other", 2 * n - 1, 2 * n - 1)), True)
            self.assertIs(is_mirror(n, ("other", 0, 1)), False)
            self.assertIs(is_mirror(n, ("other", 0, n)), False)

    def test_mirrors_undo_themselves_on_the_carpet_without_end(self):
        for n in SIDES:
            for way, down, right in wides(n):
                four = [(d, r) for d in (down, down - 2 * n) for r in (right, right - 2 * n)]
                wanted = any(undoes_itself(way, d, r) for d, r in four)
                self.assertIs(is_mirror(n, (way, down, right)), wanted, (n, way, down, right))

    def test_as_it_is_told(self):
        for n in SIDES:
            for way, down, right in wides(n):
                wanted = {"side": down == 0, "flip": right == 0, "cross": down + right in (0, 2 * n),
                          "other": down == right}
                self.assertIs(is_mirror(n, (way, down, right)), wanted[way])


class Stands(unittest.TestCase):
    def test_by_hand(self):
        self.assertEqual(stand_of(4, ("side", 3, 5)), ("side", 0, 1))
        self.assertEqual(stand_of(4, ("flip", 7, 2)), ("flip", 3, 0))
        self.assertEqual(stand_of(4, ("cross", 5, 1)), ("cross", 2, 2))
        self.assertEqual(stand_of(4, ("cross", 1, 7)), ("cross", 1, 3))
        self.assertEqual(stand_of(5, ("cross", 0, 2)), ("cross", 4, 1))
        self.assertIsNone(stand_of(4, ("cross", 2, 1)))
        self.assertEqual(stand_of(4, ("other", 7, 5)), ("other", 2, 2))
        self.assertEqual(stand_of(4, ("other", 0, 2)), ("other", 1, 1))
        self.assertIsNone(stand_of(4, ("other", 0, 7)))
        self.assertEqual(stand_of(1, ("cross", 1, 1)), ("cross", 0, 0))
        self.assertIsNone(stand_of(1, ("cross", 1, 0)))

    def test_even_and_odd_ones(self):
        for n in SIDES:
            for wide in wides(n):
                way, down, right = wide
                stand = stand_of(n, wide)
                if way in ("cross", "other") and (down + right) % 2:
                    self.assertIsNone(stand)
                else:
                    self.assertTrue(is_movement(n, stand))
                    self.assertEqual(stand[0], way)
                if way == "cross" and stand:
                    self.assertEqual((stand[1] + stand[2]) % n, 0)
                if way == "other" and stand:
                    self.assertEqual(stand[1], stand[2])

    def test_a_mirrors_stand_is_itself(self):
        for n in SIDES:
            for wide in wides(n):
                if is_mirror(n, wide):
                    self.assertEqual(stand_of(n, wide), (wide[0], wide[1] % n, wide[2] % n))


if __name__ == "__main__":
    unittest.main()
