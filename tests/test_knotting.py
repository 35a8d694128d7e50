import unittest

from carpetkin.errors import Misfit, NoName, TooWide
from carpetkin.knotting import counted, knotted, sizes
from carpetkin.programs import read, shown

from plainly import Refused, cloths_of, many_programs

ASKED = (sizes, knotted, counted)


def size(cloth):
    return (len(cloth), len(cloth[0]))


def refusal_of(error):
    kind = error.__class__.__name__
    return (kind, error.row, error.name) if kind == "NoName" else (kind, error.row)


class Knotted(unittest.TestCase):
    def test_by_hand(self):
        text = ("let rose = [ab/cd]\nlet wide = beside(rose, side(rose))\n"
                "again 2 wide = above(wide, flip(wide))\nknot wide")
        program = read(text)
        self.assertEqual(sizes(program), [(2, 2), (2, 4), (4, 4), (8, 4), (8, 4)])
        self.assertEqual(knotted(program), ("abba", "cddc", "cddc", "abba", "abba", "cddc", "cddc", "abba"))
        self.assertEqual(counted(program), {"a": 8, "b": 8, "c": 8, "d": 8})

    def test_a_name_told_anew(self):
        program = read("let a = [x]\nlet b = a\nlet a = [yy]\nknot beside(a, b)")
        self.assertEqual(sizes(program), [(1, 1), (1, 1), (1, 2), (1, 3)])
        self.assertEqual(knotted(program), ("yyx",))
        self.assertEqual(counted(program), {"x": 1, "y": 2})

    def test_a_name_told_by_itself(self):
        self.assertEqual(knotted(read("let a = [xy]\nlet a = above(a, a)\nknot a")), ("xy", "xy"))

    def test_an_again_by_what_the_name_knots_then(self):
        program = read("let a = [x]\nagain 4 a = beside(a, dye(x, y, a))\nknot a")
        self.assertEqual(sizes(program), [(1, 1), (1, 2), (1, 4), (1, 8), (1, 16), (1, 16)])
        self.assertEqual(knotted(program), ("xyyxyxxyyxxyxyyx",))
        self.assertEqual(knotted(read("let a = [x]\nagain 23 a = beside([y], a)\nknot a")), ("y" * 23 + "x",))
        self.assertEqual(len(sizes(read("let a = [x]\nagain 24 a = turn(a)\nagain 1 a = a\nknot a"))), 27)

    def test_an_again_in_the_middle(self):
        program = read("let a = [ab]\nlet b = a\nagain 3 a = turn(a)\nknot above(b, turn(a))")
        self.assertEqual(knotted(program), ("ab", "ab"))

    def test_against_the_plain_reading(self):
        let_by = 0
        for text in many_programs(3000):
            program = read(text)
            try:
                cloths = cloths_of(text)
            except Refused as refused:
                for ask in ASKED:
                    with self.assertRaises((NoName, Misfit, TooWide), msg=text) as error:
                        ask(program)
                    self.assertEqual(refusal_of(error.exception), refused.args, text)
                continue
            let_by += 1
            knots = "".join(cloths[-1])
            self.assertEqual(sizes(program), [size(cloth) for cloth in cloths], text)
            self.assertEqual(knotted(program), cloths[-1], text)
            self.assertEqual(counted(program), {colour: knots.count(colour) for colour in knots}, text)
        self.assertGreater(let_by, 800)

    def test_nothing_is_changed_or_kept(self):
        text = "let a = [xy]\nagain 2 a = turn(a)\nknot a"
        program = read(text)
        sizes(program).clear()
        told = counted(program)
        told["x"] = 7
        self.assertEqual(counted(program), {"x": 1, "y": 1})
        self.assertEqual(sizes(program), [(1, 2), (2, 1), (1, 2), (1, 2)])
        self.assertEqual(knotted(program), ("yx",))
        self.assertEqual(shown(program), text)


class Refusals(unittest.TestCase):
    def refused(self, text, kind, row, name=None):
        for ask in ASKED:
            program = read(text)
            with self.assertRaises(kind) as error:
                ask(program)
            self.assertEqual(error.exception.row, row)
            if name is not None:
                self.assertEqual(error.exception.name, name)
            self.assertEqual(shown(program), text)

    def test_no_name(self):
        self.refused("knot a", NoName, 0, "a")
        self.refused("let a = b\nlet b = [a]\nknot a", NoName, 0, "b")
        self.refused("let a = [a]\nlet b = a\nknot beside(a, c)", NoName, 2, "c")
        self.refused("let a = a\nknot a", NoName, 0, "a")

    def test_an_agains_name_ahead_of_its_motif(self):
        self.refused("again 2 a = b\nknot [a]", NoName, 0, "a")
        self.refused("let x = [a]\nagain 2 a = beside([a], [b/c])\nknot [a]", NoName, 1, "a")
        self.refused("let a = [a]\nagain 2 a = b\nknot [a]", NoName, 1, "b")
        self.refused("again 1 a = [a]\nknot a", NoName, 0, "a")

    def test_misfit(self):
        self.refused("knot beside([a], [a/b])", Misfit, 0)
        self.refused("let a = [ab]\nlet b = above(a, turn(a))\nknot c", Misfit, 1)

    def test_too_wide(self):
        self.refused("let a = [a]\nagain 5 a = beside(a, a)\nknot a", TooWide, 1)
        self.refused("let a = [ab]\nlet b = [a]\nknot down(2, across(13, a))", TooWide, 2)
        self.assertEqual(sizes(read("knot down(24, across(24, [a]))")), [(24, 24)])

    def test_a_later_time_of_an_again_is_refused(self):
        self.refused("let a = [ab]\nagain 2 a = above(a, [xy])\nagain 2 a = beside(turn(a), [x/y])\nknot z", Misfit, 2)

    def test_row_by_row(self):
        self.refused("let a = [a]\nlet b = across(24, [aa])\nlet c = nobody\nknot beside([a], [a/b])", TooWide, 1)
        self.refused("let a = nobody\nlet b = across(24, [aa])\nknot beside([a], [a/b])", NoName, 0, "nobody")
        self.refused("let a = beside([a], [a/b])\nagain 2 x = y\nknot [a]", Misfit, 0)

    def test_a_let_that_is_not_used_is_due_too(self):
        self.refused("let a = across(24, [aa])\nknot [a]", TooWide, 0)


if __name__ == "__main__":
    unittest.main()
