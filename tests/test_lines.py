import unittest

from carpetkin.lines import movement_of, movements_of, shown_movement, shown_movements, written_number
from carpetkin.movements import all_movements

NO_MOVEMENTS = (
    "", "-", ".", "..", "turn", "turn.", "turn.0", "turn.0.", "turn.0.0.", ".turn.0.0", "turn.0.0.0", "turn..0",
    "turn.0..0",
    "turn0.0", "turn.0,0", "turn,0,0", "turn 0 0", " turn.0.0", "turn.0.0 ", "turn. 0.0", "turn.00.0", "turn.0.00",
    "turn.01.0",
    "turn.0.01", "turn.-1.0", "turn.0.-1", "turn.+1.0", "turn.a.0", "turn.0.a", "Turn.0.0", "turns.0.0", "0.0.turn",
    "mirror.0.0",
    ".0.0", "turn.0.0\n", "turn.0.1e0", "turn.0.0x", "turn.0.99999", "turn.0." + "9" * 5000,
)


class Movements(unittest.TestCase):
    def test_by_hand(self):
        self.assertEqual(shown_movement(("turn", 0, 3)), "turn.0.3")
        self.assertEqual(movement_of(4, "turn.0.3"), ("turn", 0, 3))
        self.assertEqual(shown_movements([("turn", 0, 3), ("stay", 0, 0)]), "turn.0.3,stay.0.0")
        self.assertEqual(movements_of(4, "turn.0.3,stay.0.0"), [("turn", 0, 3), ("stay", 0, 0)])

    def test_each_of_a_side_written_and_read(self):
        for side in range(1, 9):
            for movement in all_movements(side):
                self.assertEqual(movement_of(side, shown_movement(movement)), movement)
                self.assertEqual(movements_of(side, shown_movements([movement])), [movement])
            self.assertEqual(movements_of(side, shown_movements(all_movements(side))), all_movements(side))

    def test_beyond_the_side(self):
        for side in range(1, 9):
            for word in (f"stay.{side}.0", f"stay.0.{side}", f"other.{side + 1}.{side + 1}"):
                self.assertIsNone(movement_of(side, word))
                self.assertIsNone(movements_of(side, word))
                self.assertIsNotNone(movement_of(side + 2, word))

    def test_what_writes_none(self):
        for word in NO_MOVEMENTS:
            with self.subTest(word):
                self.assertIsNone(movement_of(8, word))
                self.assertIsNone(movements_of(8, "stay.0.0," + word))
                self.assertIsNone(movements_of(8, word + ",stay.0.0"))

    def test_lists(self):
        self.assertEqual(shown_movements([]), "-")
        self.assertEqual(movements_of(3, "-"), [])
        self.assertEqual(movements_of(3, ",".join(["turn.0.2"] * 13)), [("turn", 0, 2)] * 13)
        for word in ("", ",", "--", "-,-", "stay.0.0,", ",stay.0.0", "stay.0.0,,stay.0.0", "stay.0.0, stay.0.0",
                     "stay.0.0;stay.0.0",
                     "-,stay.0.0", "stay.0.0,-", " -", "- "):
            with self.subTest(word):
                self.assertIsNone(movements_of(3, word))

    def test_nothing_is_changed_or_kept(self):
        movements = [("turn", 0, 0)]
        shown_movements(movements)
        movements_of(3, "-").append(1)
        self.assertEqual(movements, [("turn", 0, 0)])
        self.assertEqual(movements_of(3, "-"), [])


class Numbers(unittest.TestCase):
    def test_one_to_four_figures(self):
        for number in (*range(0, 130), 999, 1000, 9999):
            self.assertEqual(written_number(str(number)), number)

    def test_what_writes_none(self):
        for word in ("", "00", "01", "001", "0001", "012", "10000", "99999", "00000", "9" * 5000, "-1", "+1", " 1",
                     "1 ", "1.0", "a",
                     "1a", "a1", "0x1", "1e3", "1_0", "-0", "\n1", "1\n", "."):
            with self.subTest(word):
                self.assertIsNone(written_number(word))


if __name__ == "__main__":
    unittest.main()
