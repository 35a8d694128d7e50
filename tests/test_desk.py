import unittest

from carpetkin.betters import bettered
from carpetkin.cells import least_cell
from carpetkin.cloths import is_carpet, read_cloth, shown_cloth
from carpetkin.desk import Desk
from carpetkin.errors import (
    CarpetError, Misfit, NoCarpet, NoColour, NoName, NoNumber, NoRow, NoText, Nobody, TooLarge, TooWide, Unlike,
)
from carpetkin.fewest import few_of
from carpetkin.forms import dyed
from carpetkin.kin import kin, kin_by_colours, nearest
from carpetkin.kinds import kind
from carpetkin.knotting import counted, knotted, sizes
from carpetkin.leaving import leaves, leaving
from carpetkin.lines import movement_of, movements_of, shown_movement, shown_movements
from carpetkin.mending import mended
from carpetkin.movements import all_movements, moved
from carpetkin.numbers import carpet_of, number_of
from carpetkin.programs import read
from carpetkin.rounds import count_of
from carpetkin.weavings import read_weaving, shown_weaving, unwoven, weaving_cost, woven

from carpets import DRAWN, some_carpets
from plainly import Refused, cloths_of, many_programs

CARPETS = (*DRAWN, *some_carpets(3, "ab", 6), *some_carpets(4, "abc", 4))


def desk_with(**cloths):
    desk = Desk()
    for name, cloth in cloths.items():
        desk.say(f"lay {name} {cloth}")
    return desk


class Setting(unittest.TestCase):
    def test_lay_and_show(self):
        desk = Desk()
        self.assertEqual(desk.say("lay rose ab/cd/ef"), "3x2")
        self.assertEqual(desk.say("show rose"), "ab/cd/ef")
        self.assertEqual(desk.say("lay rose q"), "1x1")
        self.assertEqual(desk.say("show rose"), "q")
        self.assertEqual(desk.say("lay wide " + "/".join(["z" * 24] * 24)), "24x24")

    def test_knot(self):
        desk = Desk()
        self.assertEqual(desk.say("knot rose knot [ab/cd]"), "2x2")
        self.assertEqual(desk.say("show rose"), "ab/cd")
        row = "knot rose let a = [xy] | again 2 a = above(a, side(a)) | knot beside(a, a, a)"
        self.assertEqual(desk.say(row), "4x6")
        self.assertEqual(desk.say("show rose"), "xyxyxy/yxyxyx/yxyxyx/xyxyxy")

    def test_programs_against_the_plain_reading(self):
        desk = Desk()
        for text in many_programs(300):
            row = "knot x " + text.replace("\n", " | ")
            try:
                cloth = cloths_of(text)[-1]
            except Refused as refused:
                with self.assertRaises((NoName, Misfit, TooWide)) as error:
                    desk.say(row)
                self.assertEqual(error.exception.row, refused.args[1])
                continue
            self.assertEqual(desk.say(row), f"{len(cloth)}x{len(cloth[0])}")
            self.assertEqual(desk.say("show x"), shown_cloth(cloth))

    def test_names(self):
        desk = Desk()
        for name in ("a", "abcdefgh", "turn", "beside", "knot", "lay", "show", "let", "none"):
            self.assertEqual(desk.say(f"lay {name} a"), "1x1")
            self.assertEqual(desk.say(f"knot {name} knot [aa]"), "1x2")
            self.assertEqual(desk.say(f"carpet {name} 1 2 1"), "ok")
            self.assertEqual(desk.say(f"show {name}"), "b")

    def test_carpet(self):
        desk = Desk()
        for side, colours in ((1, 3), (2, 3), (3, 2), (8, 1)):
            for number in range(count_of(side, colours)):
                self.assertEqual(desk.say(f"carpet c {side} {colours} {number}"), "ok")
                self.assertEqual(desk.say("show c"), shown_cloth(carpet_of(side, colours, number)))
                self.assertEqual(desk.say(f"number c {colours}"), str(number))

    def test_mend(self):
        for carpet in CARPETS:
            movements = all_movements(len(carpet))
            for wish in ([], [movements[-1]], movements[:12], [movements[len(movements) // 2], movements[0]]):
                desk = desk_with(rose=shown_cloth(carpet), lily="a")
                told = mended(carpet, wish)
                self.assertEqual(desk.say(f"mend rose {shown_movements(wish)}"), str(len(told[1])))
                self.assertEqual(desk.say("show rose"), shown_cloth(told[0]))
                self.assertEqual(desk.say("show lily"), "a")

    def test_better(self):
        for carpet in ("q", "ab/cb", "abc/def/ghi", "aab/aba/bab"):
            for most in range(10):
                desk = desk_with(rose=carpet)
                told = bettered(read_cloth(carpet), most)
                self.assertEqual(desk.say(f"better rose {most}"), f"{told[1]} {shown_movements(told[0])}")
                self.assertEqual(desk.say("show rose"), shown_cloth(told[2][0]))
        self.assertEqual(desk_with(rose="abc/def/ghi").say("better rose 0"), "1 -")

    def test_two_desks_have_nothing_in_common(self):
        desk_with(rose="a")
        with self.assertRaises(Nobody):
            Desk().say("show rose")


class Asking(unittest.TestCase):
    def test_of_one(self):
        for carpet in CARPETS:
            desk = desk_with(rose=shown_cloth(carpet))
            left = leaving(carpet)
            cell = least_cell(carpet)
            self.assertEqual(desk.say("show rose"), shown_cloth(carpet))
            self.assertEqual(desk.say("weave rose"), shown_weaving(woven(carpet)))
            self.assertEqual(desk.say("cost rose"), str(weaving_cost(woven(carpet))))
            self.assertEqual(desk.say("leaves rose"), str(len(left)))
            self.assertEqual(desk.say("few rose"), shown_movements(few_of(len(carpet), left)))
            self.assertEqual(desk.say("kind rose"), kind(carpet)[0])
            self.assertEqual(desk.say("cell rose"), "/".join(cell[0]) + " " + str(cell[1]))
            self.assertEqual(desk.say("show rose"), shown_cloth(carpet))

    def test_by_hand(self):
        desk = desk_with(one="abc/cab/bca", q="qq/qq", p="abc/def/ghi", w="abab/abab/cccc")
        self.assertEqual(desk.say("cell one"), "abc 1")
        self.assertEqual(desk.say("cell q"), "q 0")
        self.assertEqual(desk.say("cell p"), "abc/def/ghi 0")
        self.assertEqual(desk.say("few p"), "-")
        self.assertEqual(desk.say("leaves p"), "1")
        self.assertEqual(desk.say("leaves q"), "32")
        self.assertEqual(desk.say("kind p"), "p1")
        self.assertEqual(desk.say("kind q"), "p4m")
        self.assertEqual(desk.say("weave w"), "[(a b)2]2 [c4]")
        self.assertEqual(desk.say("cost w"), "6")

    def test_weave_and_cost_of_what_is_no_carpet(self):
        desk = desk_with(rose="ababab", wide="/".join(["ab" * 12] * 24))
        self.assertEqual(desk.say("weave rose"), "[(a b)3]")
        self.assertEqual(desk.say("cost rose"), "4")
        self.assertEqual(desk.say("cost wide"), "4")

    def test_of_two(self):
        for one in CARPETS[:16]:
            for other in (*CARPETS[:16], moved(one, ("turn", 0, len(one) - 1)), tuple(row.replace("a",
                                                                                                  "z") for row in one)):
                desk = desk_with(one=shown_cloth(one), other=shown_cloth(other))
                movement = kin(one, other)
                by_colours = kin_by_colours(one, other)
                self.assertEqual(desk.say("kin one other"), shown_movement(movement) if movement else "none")
                if by_colours is None:
                    self.assertEqual(desk.say("dyekin one other"), "none")
                else:
                    dyeing = ",".join(f"{old}>{new}" for old, new in by_colours[1])
                    self.assertEqual(desk.say("dyekin one other"), f"{shown_movement(by_colours[0])} {dyeing}")
                if len(one) == len(other):
                    near = nearest(one, other)
                    self.assertEqual(desk.say("near one other"), f"{shown_movement(near[0])} {len(near[1])}")

    def test_of_two_by_hand(self):
        desk = desk_with(a="aa/ab", b="bb/ba", c="a")
        self.assertEqual(desk.say("kin a b"), "none")
        self.assertEqual(desk.say("kin a c"), "none")
        self.assertEqual(desk.say("dyekin a c"), "none")
        movement, dyeing = desk.say("dyekin a b").split(" ")
        self.assertEqual(dyeing, "a>b,b>a")
        self.assertEqual(dyed(moved(("aa", "ab"), movement_of(2, movement)), [("a", "b"), ("b", "a")]), ("bb", "ba"))
        self.assertEqual(moved(("aa", "ab"), movement_of(2, desk.say("kin a a"))), ("aa", "ab"))
        self.assertEqual(desk.say("near a b").split(" ")[1], "2")

    def test_number_and_count(self):
        desk = desk_with(rose="ba/ab")
        self.assertEqual(desk.say("number rose 2"), "3")
        self.assertEqual(desk.say("number rose 4"), str(number_of(("ba", "ab"), 4)))
        for side in range(1, 9):
            for colours in (1, 2, 26):
                self.assertEqual(desk.say(f"count {side} {colours}"), str(count_of(side, colours)))


class Refusals(unittest.TestCase):
    def setUp(self):
        self.cloths = {"two": "ab/bb", "three": "abc/def/ghi", "four": "abcd/efgh/ijkl/mnop", "line": "ab",
                       "nine": "/".join(["a" * 9] * 9)}
        self.desk = desk_with(**self.cloths)

    def refused(self, kind, row):
        with self.subTest(repr(row)):
            with self.assertRaises(kind) as refused:
                self.desk.say(row)
            self.assertIsInstance(refused.exception, CarpetError)
            for name, cloth in self.cloths.items():
                self.assertEqual(self.desk.say("show " + name), cloth)
            with self.assertRaises(Nobody):
                self.desk.say("show new")
            return refused.exception

    def test_no_text(self):
        for thing in (None, True, 0, 3, b"show two", ["show two"], ("show", "two"), {}, object(), 1.5):
            self.refused(NoRow, thing)

    def test_no_row(self):
        for row in ("", " ", "two", "show", "show ", "show  two", " show two", "show two ", "show two two",
                    "Show two", "show\ttwo",
                    "show Two", "show two1", "show abcdefghi", "show a-b", "say two", "weave", "weave two two",
                    "cost", "leaves",
                    "leaves two two", "few", "kind", "cell", "kin", "kin two", "kin two two two", "kin two ",
                    "kin  two two", "dyekin two",
                    "near two", "near two two two", "number two", "number two 2 2", "carpet", "carpet new",
                    "carpet new 2",
                    "carpet new 2 2", "carpet new 2 2 1 1", "count", "count 2", "count 2 2 2", "mend two",
                    "mend two ", "mend two - -",
                    "mend two  -", "mend", "better two", "better two 1 1", "better", "lay", "lay new", "lay new ",
                    "lay  new a",
                    "lay new  a", "lay new a ", "lay new a b", "lay New a", "lay abcdefghi a", "lay new ab/c",
                    "lay new A", "lay new a/",
                    "lay new " + "a" * 25, "lay  a", "knot", "knot new", "knot  knot [a]", "knot  new knot [a]",
                    "knot New knot [a]",
                    "knot abcdefghi knot [a]", "knot new1 knot [a]", "undo", "help", "show two\n", "\nshow two",
                    "lay new a\n",
                    "knot new let a = [a]\nknot a", "knot new knot [a]\n", "show\ntwo"):
            self.refused(NoRow, row)

    def test_numbers_out_of_bounds(self):
        for row in ("number two 0", "number two 27", "number two 02", "number two x", "number two -1", "number two ",
                    "number two 2.0",
                    "carpet new 0 2 0", "carpet new 9 2 0", "carpet new 2 0 0", "carpet new 2 27 0",
                    "carpet new 02 2 0",
                    "carpet new 2 2 00", "carpet new 2 2 10000", "carpet new 2 2 -1", "carpet new 2 2 x",
                    "carpet New 2 2 1",
                    "carpet abcdefghi 2 2 1", "count 0 2", "count 9 2", "count 2 0", "count 2 27", "count 02 2",
                    "count 2 x",
                    "better two 10", "better two 00", "better two 01", "better two -1", "better two x",
                    "better two 9999"):
            self.refused(NoRow, row)

    def test_nobody(self):
        for row in ("show new", "weave new", "cost new", "leaves new", "few new", "kind new", "cell new",
                    "kin new two", "kin two new",
                    "dyekin new two", "dyekin two new", "near new two", "near two new", "number new 2", "mend new -",
                    "better new 3",
                    "kin new new"):
            self.refused(Nobody, row)

    def test_no_row_ahead_of_nobody(self):
        for row in ("number new 0", "better new 10", "kin new Two", "show new two", "mend new", "mend new "):
            self.refused(NoRow, row)

    def test_no_carpet(self):
        for name in ("line", "nine"):
            for row in ("leaves {}", "few {}", "kind {}", "cell {}", "kin {} two", "kin two {}", "dyekin {} two",
                        "dyekin two {}",
                        "near {} two", "near two {}", "number {} 2", "mend {} -", "better {} 3", "kin {} {}"):
                self.refused(NoCarpet, row.format(name, name))

    def test_nobody_ahead_of_no_carpet(self):
        for row in ("kin line new", "kin new line", "dyekin nine new", "near line new"):
            self.refused(Nobody, row)

    def test_no_row_ahead_of_no_carpet(self):
        for row in ("number line 27", "better line 10", "kin line", "mend line"):
            self.refused(NoRow, row)

    def test_a_wish_is_looked_at_behind_these(self):
        for wish in ("x", "stay.2.0", "stay.0.0,", ",", "--", "stay.0.0;stay.0.0", "turn.0", "stay.00.0",
                     ",".join(["stay.0.0"] * 13)):
            self.refused(Nobody, f"mend new {wish}")
            self.refused(NoCarpet, f"mend line {wish}")
            self.refused(NoRow, f"mend two {wish}")
        self.assertEqual(self.desk.say("mend two " + ",".join(["stay.0.0"] * 12)), "0")
        self.assertEqual(self.desk.say("mend three stay.0.0,stay.0.0"), "0")
        self.refused(NoRow, "mend two stay.0.2")

    def test_no_text_of_a_program(self):
        for text, row in (("", 0), (" ", 0), ("   ", 0), ("knot", 0), ("knot ", 0), (" knot [a]", 0), ("knot [a] ",
                                                                                                       0), ("[a]", 0),
                          ("let a = [a]", 0), ("let a = [a] | let b = a", 1), ("let a = [a]|knot a", 0),
                          ("let a = [a] |knot a", 0),
                          ("let a = [a]  | knot a", 0), ("let a = [a] |  knot a", 1), ("knot [a] | ", 0),
                          (" | knot [a]", 0),
                          ("let a = [a] |  | knot a", 1), ("let a = [a] | | knot a", 1), ("knot [a] | knot [a]", 0),
                          ("|", 0), (" | ", 0)):
            self.assertEqual(self.refused(NoText, "knot new " + text).row, row)
        rows = ["let a = [a]"] * 40 + ["knot a"]
        self.assertEqual(self.refused(NoText, "knot two " + " | ".join(rows)).row, 40)
        self.assertEqual(Desk().say("knot new " + " | ".join(rows[1:])), "1x1")

    def test_what_a_program_refuses(self):
        self.assertEqual(self.refused(NoName, "knot two let a = [a] | knot b").name, "b")
        self.assertEqual(self.refused(NoName, "knot new knot two").name, "two")
        self.assertEqual(self.refused(Misfit, "knot two let a = [a] | knot beside(a, [a/b])").row, 1)
        self.assertEqual(self.refused(TooWide, "knot new knot across(24, [aa])").row, 0)

    def test_what_the_points_refuse(self):
        self.refused(Unlike, "near two three")
        self.assertEqual(self.refused(NoColour, "number two 1").colour, "b")
        self.assertEqual(self.refused(NoColour, "number four 2").colour, "c")
        self.assertEqual(self.refused(TooLarge, "number two 5").many, 625)
        self.assertEqual(self.refused(TooLarge, "carpet new 4 2 0").many, 65536)
        self.assertEqual(self.refused(TooLarge, "carpet two 4 2 9999").many, 65536)
        self.refused(NoNumber, "carpet new 2 2 6")
        self.refused(NoNumber, "carpet two 2 2 9999")
        self.assertEqual(self.refused(TooLarge, "better four 3").many, 16)


def outcome(ask):
    try:
        return ask()
    except CarpetError as refused:
        return (refused.__class__.__name__, vars(refused))


class TheWhole(unittest.TestCase):
    def check_alike(self, desk, cloth):
        side = len(cloth)
        left = leaving(cloth)
        wish = all_movements(side)[::5 * side][:12]
        self.assertEqual(unwoven(read_weaving(desk.say("weave rug"))), cloth)
        self.assertEqual(desk.say("leaves rug"), str(len(left)))
        self.assertEqual(movements_of(side, desk.say("few rug")), few_of(side, left))
        self.assertEqual(desk.say("kind rug"), kind(cloth)[0])
        self.assertEqual(outcome(lambda: desk.say("number rug 3")), outcome(lambda: str(number_of(cloth, 3))))
        self.assertEqual(desk.say(f"mend rug {shown_movements(wish)}"), str(len(mended(cloth, wish)[1])))
        self.assertEqual(desk.say("show rug"), shown_cloth(mended(cloth, wish)[0]))

    def test_programs_by_the_desk_and_by_the_functions_alike(self):
        tried = 0
        for text in many_programs(900):
            desk = Desk()
            said = outcome(lambda: desk.say("knot rug " + text.replace("\n", " | ")))
            cloth = outcome(lambda: knotted(read(text)))
            if isinstance(said, tuple):
                self.assertEqual(said, cloth)
                continue
            self.assertEqual(desk.say("show rug"), shown_cloth(cloth))
            if is_carpet(cloth):
                tried += 1
                self.check_alike(desk, cloth)
        self.assertGreater(tried, 50)

    def test_a_program_from_its_text_to_its_mending(self):
        text = "let a = [ab/bb]\nlet b = dye(a, b, turn(a))\nknot beside(above(a, [aa]), flip([b/a/b]))"
        program = read(text)
        cloth = knotted(program)
        desk = Desk()
        self.assertEqual(desk.say("knot rug " + text.replace("\n", " | ")), "3x3")
        self.assertEqual(sizes(program), [(2, 2), (2, 2), (3, 3)])
        self.assertEqual(sizes(program)[-1], (len(cloth), len(cloth[0])))
        self.assertEqual(counted(program), {colour: "".join(cloth).count(colour) for colour in "ab"})
        self.assertEqual(desk.say("show rug"), shown_cloth(cloth))
        self.assertEqual(unwoven(read_weaving(desk.say("weave rug"))), cloth)
        self.assertEqual(desk.say("cost rug"), str(weaving_cost(woven(cloth))))
        left = leaving(cloth)
        self.assertEqual(left, [movement for movement in all_movements(3) if moved(cloth, movement) == cloth])
        self.assertEqual(desk.say("leaves rug"), str(len(left)))
        self.assertEqual(movements_of(3, desk.say("few rug")), few_of(3, left))
        self.assertEqual(desk.say("kind rug"), kind(cloth)[0])
        number = desk.say("number rug 2")
        self.assertEqual(number, str(number_of(cloth, 2)))
        self.assertEqual(desk.say(f"carpet kin 3 2 {number}"), "ok")
        self.assertEqual(moved(cloth, movement_of(3, desk.say("kin rug kin"))), carpet_of(3, 2, int(number)))
        wish = [("turn", 0, 2), ("side", 0, 2)]
        told = mended(cloth, wish)
        self.assertEqual(desk.say("mend rug turn.0.2,side.0.2"), str(len(told[1])))
        self.assertEqual(desk.say("show rug"), shown_cloth(told[0]))
        self.assertTrue(all(leaves(told[0], movement) for movement in wish))
        self.assertGreaterEqual(int(desk.say("leaves rug")), 8)

    def test_a_mended_carpet_can_be_bettered_further(self):
        desk = desk_with(rug="abb/bab/bba")
        size, few = desk.say("better rug 3").split(" ")
        self.assertEqual(size, "72")
        self.assertEqual(desk.say("leaves rug"), "72")
        self.assertEqual(desk.say("show rug"), "bbb/bbb/bbb")
        self.assertLessEqual(len(movements_of(3, few)), 4)


if __name__ == "__main__":
    unittest.main()
