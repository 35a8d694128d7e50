import unittest

from carpetkin.errors import CarpetError, NoText
from carpetkin.motifs import Above, Across, Beside, Down, Dyed, Named, Plain, Turned
from carpetkin.programs import read, read_motif, shown

from plainly import many_programs

WORDS = ("beside", "above", "across", "down", "turn", "half", "back", "side", "flip", "cross", "other", "dye")
OTHER_KINDS = (None, True, 0, 3, b"knot [a]", ["knot [a]"], ("knot [a]",), {}, object(), 1.5)


def deep_text(deep):
    return "turn(" * (deep - 1) + "[a]" + ")" * (deep - 1)


class ReadMotifs(unittest.TestCase):
    def test_each_form(self):
        two = ", ".join(["rose"] * 2)
        six = ", ".join(["rose", "[a]", "turn(x)", "dye(a, b, x)", "across(2, x)", "beside(x, y)"])
        texts = ["[a]", "[abc/def]", "[" + "z" * 24 + "]", "[" + "/".join("z" * 24) + "]", "rose", "x", "abcdefgh"]
        texts += [f"{word}({parts})" for word in ("beside", "above") for parts in (two, six)]
        texts += [f"{word}({k}, rose)" for word in ("across", "down") for k in range(1, 25)]
        texts += [f"{way}(rose)" for way in WORDS[4:11]]
        texts += ["dye(a, z, rose)", "dye(q, q, [q])"]
        for text in texts:
            with self.subTest(text):
                self.assertEqual(read_motif(text).text(), text)

    def test_kinds_and_fields(self):
        self.assertEqual(read_motif("[ab/cd]").rows, ("ab", "cd"))
        self.assertIsInstance(read_motif("[ab/cd]"), Plain)
        self.assertIsInstance(read_motif("rose"), Named)
        for word, kind in (("beside", Beside), ("above", Above)):
            motif = read_motif(word + "(a, b, c)")
            self.assertIsInstance(motif, kind)
            self.assertIsInstance(motif.parts, tuple)
            self.assertEqual([part.name for part in motif.parts], ["a", "b", "c"])
        for word, kind in (("across", Across), ("down", Down)):
            motif = read_motif(word + "(24, b)")
            self.assertIsInstance(motif, kind)
            self.assertEqual((motif.many, motif.part.name), (24, "b"))
        for way in WORDS[4:11]:
            motif = read_motif(way + "(b)")
            self.assertIsInstance(motif, Turned)
            self.assertEqual((motif.way, motif.part.name), (way, "b"))
        motif = read_motif("dye(x, y, b)")
        self.assertIsInstance(motif, Dyed)
        self.assertEqual((motif.one, motif.other, motif.part.name), ("x", "y", "b"))

    def test_names(self):
        for name in ("a", "abcdefgh", "let", "again", "knot", "stay", "turns", "tur", "dyes", "besides"):
            self.assertEqual(read_motif(name).text(), name)
            self.assertEqual(read_motif(f"turn({name})").text(), f"turn({name})")
        for name in (*WORDS, "abcdefghi", "", "A", "Rose", "ro se", "rose1", "1", "ro-se", "stay(a)", "let(a)",
                     "rose(a)"):
            with self.subTest(name):
                self.assertIsNone(read_motif(name))
                self.assertIsNone(read_motif(f"turn({name})"))
                self.assertIsNone(read_motif(f"beside(a, {name})"))

    def test_cloths(self):
        for cloth in ("", "/", "a/", "/a", "ab/c", "A", "a b", "a1", "a" * 25, "/".join("a" * 25), "[a]", "a]", "[a",
                      "a,b"):
            with self.subTest(cloth):
                self.assertIsNone(read_motif("[" + cloth + "]"))
        for text in ("[a", "a]", "[]", "[", "]", "[a]]", "[[a]", "[a][b]", "[a]b", "b[a]"):
            with self.subTest(text):
                self.assertIsNone(read_motif(text))

    def test_how_many_parts(self):
        for word in ("beside", "above"):
            for many in range(9):
                text = word + "(" + ", ".join(["a"] * many) + ")"
                with self.subTest(text):
                    self.assertEqual(read_motif(text) is not None, 2 <= many <= 6)
        for word in ("across(2, ", "dye(a, b, ", *[way + "(" for way in WORDS[4:11]]):
            self.assertIsNotNone(read_motif(word + "a)"))
            self.assertIsNone(read_motif(word + "a, b)"))
            self.assertIsNone(read_motif(word + ")"))

    def test_numbers(self):
        for word in ("across", "down"):
            for k in ("1", "9", "10", "24"):
                self.assertEqual(read_motif(f"{word}({k}, a)").many, int(k))
            for k in ("0", "25", "01", "00", "024", "-1", "+1", "1.0", "", "x", "1_0", " 1", "100", "2401", "9" * 5000):
                with self.subTest((word, k)):
                    self.assertIsNone(read_motif(f"{word}({k}, a)"))

    def test_colours(self):
        for one in ("a", "z"):
            for other in ("a", "z"):
                self.assertIsNotNone(read_motif(f"dye({one}, {other}, rose)"))
        for one in ("", "A", "ab", "1", " ", "[a]", "`", "{"):
            with self.subTest(one):
                self.assertIsNone(read_motif(f"dye({one}, a, rose)"))
                self.assertIsNone(read_motif(f"dye(a, {one}, rose)"))

    def test_blanks(self):
        for text in ("beside(a, b)", "across(3, a)", "down(3, [a/b])", "dye(a, b, c)", "turn(a)",
                     "above(a, turn(b), c)"):
            self.assertIsNotNone(read_motif(text))
            for k in range(len(text) + 1):
                with self.subTest((text, k)):
                    self.assertIsNone(read_motif(text[:k] + " " + text[k:]))
            for k, sign in enumerate(text):
                if sign in " ,()[]":
                    self.assertIsNone(read_motif(text[:k] + text[k + 1:]))
            self.assertIsNone(read_motif(text.replace(", ", ",\n") if ", " in text else text + "\n"))

    def test_left_over_signs(self):
        for text in ("a,", "a, b", "turn(a))", "turn(a)b", "turn(a", "turn((a))", "(a)", "()", "beside(a, b), c",
                     "turn()"):
            with self.subTest(text):
                self.assertIsNone(read_motif(text))

    def test_deep(self):
        self.assertEqual(read_motif(deep_text(8)).deep(), 8)
        for deep in (9, 10, 100, 2800):
            self.assertIsNone(read_motif(deep_text(deep)))
            self.assertIsNone(read_motif("turn(" * deep))
        self.assertIsNotNone(read_motif(f"beside([a], {deep_text(7)})"))
        self.assertIsNone(read_motif(f"beside([a], {deep_text(8)})"))
        self.assertIsNone(read_motif(f"above({deep_text(8)}, [a])"))
        self.assertIsNone(read_motif(f"across(2, {deep_text(8)})"))
        self.assertIsNone(read_motif(f"dye(a, b, {deep_text(8)})"))

    def test_other_kinds(self):
        for thing in OTHER_KINDS:
            self.assertIsNone(read_motif(thing))


class ReadPrograms(unittest.TestCase):
    def refused_row(self, text):
        with self.assertRaises(NoText) as refused:
            read(text)
        self.assertIsInstance(refused.exception, CarpetError)
        return refused.exception.row

    def test_one_of_each(self):
        text = "let rose = [ab/cd]\nagain 3 rose = turn(rose)\nknot beside(rose, rose)"
        program = read(text)
        self.assertIsInstance(program, list)
        self.assertEqual([row[:-1] for row in program], [("let", "rose"), ("again", 3, "rose"), ("knot",)])
        self.assertEqual([row[-1].text() for row in program], ["[ab/cd]", "turn(rose)", "beside(rose, rose)"])
        self.assertEqual(shown(program), text)

    def test_shown_of_what_was_read_is_the_text(self):
        for text in many_programs(300):
            self.assertEqual(shown(read(text)), text)

    def test_words_as_names(self):
        for name in ("let", "again", "knot", "stay", "a", "abcdefgh"):
            text = f"let {name} = [a]\nagain 24 {name} = dye(a, b, {name})\nknot {name}"
            self.assertEqual(shown(read(text)), text)
        for name in (*WORDS, "abcdefghi", "", "A", "a1", "a b", "a-b"):
            with self.subTest(name):
                self.assertEqual(self.refused_row(f"let {name} = [a]\nknot [a]"), 0)
                self.assertEqual(self.refused_row(f"let a = [a]\nagain 2 {name} = [a]\nknot [a]"), 1)

    def test_a_name_that_no_let_tells_is_read_all_the_same(self):
        self.assertEqual(shown(read("again 2 rose = lily\nknot lily")), "again 2 rose = lily\nknot lily")

    def test_how_often(self):
        for k in ("1", "24"):
            self.assertEqual(read(f"again {k} a = [a]\nknot [a]")[0][1], int(k))
        for k in ("0", "25", "01", "", "x", "-1", "2 ", " 2", "9" * 5000):
            with self.subTest(k):
                self.assertEqual(self.refused_row(f"again {k} a = [a]\nknot [a]"), 0)

    def test_rows_1_40_and_41(self):
        for many in (1, 2, 39, 40):
            text = "\n".join(["let a = [a]"] * (many - 1) + ["knot a"])
            self.assertEqual(len(read(text)), many)
        for many in (41, 42, 60):
            self.assertEqual(self.refused_row("\n".join(["let a = [a]"] * (many - 1) + ["knot a"])), 40)
        self.assertEqual(self.refused_row("\n".join(["let a = [a]"] * 41)), 40)
        self.assertEqual(self.refused_row("\n".join(["let a = [a]"] * 12 + ["x"] + ["let a = [a]"] * 41)), 12)

    def test_knot_is_the_last_row_and_only_there(self):
        self.assertEqual(self.refused_row("knot [a]\nknot [a]"), 0)
        self.assertEqual(self.refused_row("let a = [a]\nknot a\nlet a = [a]\nknot a"), 1)
        self.assertEqual(self.refused_row("let a = [a]"), 0)
        self.assertEqual(self.refused_row("let a = [a]\nlet b = [b]"), 1)
        self.assertEqual(self.refused_row("let a = [a]\nagain 2 a = [b]"), 1)
        self.assertEqual(self.refused_row("knot [a]\n"), 0)
        self.assertEqual(self.refused_row("let a = [a]\n"), 1)
        self.assertEqual(self.refused_row("\nknot [a]"), 0)
        self.assertEqual(self.refused_row("let a = [a]\n\nknot [a]"), 1)

    def test_rows_of_400_and_401_signs(self):
        cloths = "beside(" + ", ".join(["[" + "a" * 24 + "]"] * 6) + ")"
        motif = f"above({cloths}, {cloths}, across(1, [a]), turn([a]))"
        for signs in (399, 400, 401, 402):
            filled = "knot " + motif[:-1]
            inner = "[" + "a" * (signs - len(filled) - len(", []") - 1) + "]"
            text = filled + ", " + inner + ")"
            self.assertEqual(len(text), signs)
            with self.subTest(signs):
                self.assertIsNotNone(read_motif(text[5:]))
                if signs <= 400:
                    self.assertEqual(shown(read(text)), text)
                else:
                    self.assertEqual(self.refused_row(text), 0)
                    self.assertEqual(self.refused_row("let a = [a]\n" + text), 1)

    def test_the_first_row_that_is_none(self):
        good = ["let a = [a]", "again 2 a = a", "let b = turn(a)", "knot b"]
        bad = ("", " ", "let", "let a", "let a =", "let a = ", "let a=[a]", "let a = [a] ", " let a = [a]",
               "let  a = [a]",
               "let a  = [a]", "let a =  [a]", "Let a = [a]", "let a = [a", "again a = [a]", "again 2 = [a]",
               "again 2a = [a]", "again 2  a = [a]", "again a 2 = [a]", "again 2 a b = [a]", "again  2 a = [a]",
               "knot", "knot ", "knot  b", "knot b ", "knot = b", "knot a = b", "b", "let a = b = c", "stay a = [a]",
               "let a = [a]\r")
        for place in range(4):
            for row in bad:
                rows = list(good)
                rows[place] = row
                with self.subTest((place, row)):
                    self.assertEqual(self.refused_row("\n".join(rows)), place)
                    self.assertEqual(self.refused_row("\n".join(rows + ["x"])), place)

    def test_other_kinds(self):
        for thing in OTHER_KINDS:
            self.assertEqual(self.refused_row(thing), 0)
        self.assertEqual(self.refused_row(""), 0)

    def test_a_deep_motif_in_a_row(self):
        self.assertEqual(len(read("knot " + deep_text(8))), 1)
        self.assertEqual(self.refused_row("let a = [a]\nknot " + deep_text(9)), 1)

    def test_what_is_read_is_the_askers_own(self):
        text = "let a = [a]\nknot a"
        read(text).clear()
        program = read(text)
        self.assertEqual(shown(program), text)
        self.assertEqual(len(program), 2)


if __name__ == "__main__":
    unittest.main()
