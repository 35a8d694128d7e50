import unittest

from carpetkin.forms import dyed, dyed_in_order, form_by_colours, least_form
from carpetkin.movements import all_movements, is_movement, moved

from carpets import DRAWN, carpets_of, some_carpets

CARPETS = (*DRAWN, *carpets_of(2, "abc"), *some_carpets(3, "abc", 20), *some_carpets(4, "az", 6), *some_carpets(8,
                                                                                                                "qrs",
                                                                                                                2))


def in_order(carpet):
    met = []
    for colour in "".join(carpet):
        if colour not in met:
            met.append(colour)
    pairs = {old: "abcdefghijklmnopqrstuvwxyz"[k] for k, old in enumerate(met)}
    return tuple("".join(pairs[colour] for colour in row) for row in carpet), sorted(pairs.items())


class LeastForm(unittest.TestCase):
    def test_by_hand(self):
        self.assertEqual(least_form(("q",))[0], ("q",))
        self.assertEqual(least_form(("ba", "ab"))[0], ("ab", "ba"))
        self.assertEqual(least_form(("bb", "ba"))[0], ("ab", "bb"))
        self.assertEqual(least_form(("cba", "fed", "ihg"))[0], ("abc", "def", "ghi"))
        self.assertEqual(least_form(("aab", "aab", "aab"))[0], ("aaa", "aaa", "bbb"))

    def test_the_least_of_all_moved_ones(self):
        for carpet in CARPETS:
            told = least_form(carpet)
            self.assertIsInstance(told, tuple)
            form, movement = told
            self.assertEqual(form, min(moved(carpet, m) for m in all_movements(len(carpet))))
            self.assertTrue(is_movement(len(carpet), movement))
            self.assertEqual(moved(carpet, movement), form)

    def test_moved_ones_have_the_same_form(self):
        for carpet in CARPETS:
            form = least_form(carpet)[0]
            for movement in all_movements(len(carpet))[::7 * len(carpet)]:
                self.assertEqual(least_form(moved(carpet, movement))[0], form)
            self.assertEqual(least_form(form)[0], form)


class Dyed(unittest.TestCase):
    def test_exchanged_renamed_kept(self):
        self.assertEqual(dyed(("ab", "ba"), [("a", "b"), ("b", "a")]), ("ba", "ab"))
        self.assertEqual(dyed(("ab", "cc"), [("a", "x"), ("b", "a"), ("c", "b")]), ("xa", "bb"))
        self.assertEqual(dyed(("ab", "ba"), [("a", "a"), ("b", "b")]), ("ab", "ba"))
        self.assertEqual(dyed(("q",), [("q", "z")]), ("z",))

    def test_the_dyeing_stays(self):
        dyeing = [("a", "b"), ("b", "a")]
        dyed(("ab", "ba"), dyeing)
        self.assertEqual(dyeing, [("a", "b"), ("b", "a")])


class DyedInOrder(unittest.TestCase):
    def test_by_hand(self):
        self.assertEqual(dyed_in_order(("q",)), (("a",), [("q", "a")]))
        self.assertEqual(dyed_in_order(("ba", "cb")), (("ab", "ca"), [("a", "b"), ("b", "a"), ("c", "c")]))
        self.assertEqual(dyed_in_order(("zy", "yx")), (("ab", "bc"), [("x", "c"), ("y", "b"), ("z", "a")]))
        self.assertEqual(dyed_in_order(("aab", "bca", "aaa")), (("aab", "bca", "aaa"), [("a", "a"), ("b", "b"), ("c",
                                                                                                                 "c")]))

    def test_first_met_row_by_row(self):
        for carpet in CARPETS:
            told = dyed_in_order(carpet)
            self.assertIsInstance(told[1], list)
            self.assertEqual(told, in_order(carpet))
            self.assertEqual(dyed(carpet, told[1]), told[0])

    def test_26_colours(self):
        carpet = ("zyxwvu", "tsrqpo", "nmlkji", "hgfedc", "baaaaa", "aaaaaa")
        self.assertEqual(dyed_in_order(carpet)[0], ("abcdef", "ghijkl", "mnopqr", "stuvwx", "yzzzzz", "zzzzzz"))


class FormByColours(unittest.TestCase):
    def test_by_hand(self):
        self.assertEqual(form_by_colours(("q",))[0], ("a",))
        self.assertEqual(form_by_colours(("ba", "ab"))[0], ("ab", "ba"))
        self.assertEqual(form_by_colours(("yx", "yy"))[0], ("aa", "ab"))
        self.assertEqual(form_by_colours(("bbb", "bbb", "aaa"))[0], ("aaa", "aaa", "bbb"))

    def test_least_and_led_there(self):
        for carpet in CARPETS:
            told = form_by_colours(carpet)
            self.assertIsInstance(told, tuple)
            form, movement, dyeing = told
            self.assertEqual(form, min(in_order(moved(carpet, m))[0] for m in all_movements(len(carpet))))
            self.assertEqual(dyed(moved(carpet, movement), dyeing), form)
            self.assertIsInstance(dyeing, list)
            self.assertEqual(dyeing, sorted(dyeing))
            self.assertEqual(sorted(old for old, new in dyeing), sorted(set("".join(carpet))))
            self.assertEqual(len({new for old, new in dyeing}), len(dyeing))

    def test_moved_and_dyed_ones_have_the_same_form(self):
        for carpet in CARPETS:
            form = form_by_colours(carpet)[0]
            colours = sorted(set("".join(carpet)))
            others = list(zip(colours, reversed("defghijklmnopqrstuvwxyz"[:len(colours)])))
            for movement in all_movements(len(carpet))[::11 * len(carpet)]:
                self.assertEqual(form_by_colours(moved(dyed(carpet, others), movement))[0], form)

    def test_what_is_told_is_the_askers_own(self):
        form_by_colours(("ab", "bb"))[2].clear()
        dyed_in_order(("ab", "bb"))[1].clear()
        self.assertEqual(dyed_in_order(("ab", "bb"))[1], [("a", "a"), ("b", "b")])
        self.assertEqual(len(form_by_colours(("ab", "bb"))[2]), 2)


if __name__ == "__main__":
    unittest.main()
