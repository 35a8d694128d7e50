import itertools
import unittest

from carpetkin.circles import circles
from carpetkin.errors import CarpetError, NoWish, Unlike
from carpetkin.leaving import leaves, leaving
from carpetkin.mending import mended, mended_towards
from carpetkin.movements import all_movements

from carpets import DRAWN, carpets_of, some_carpets


def places_unlike(one, other):
    side = len(one)
    return [(r, c) for r in range(side) for c in range(side) if one[r][c] != other[r][c]]


def wishes_of(side):
    movements = all_movements(side)
    some = movements[::max(1, len(movements) // 9)]
    wishes = [[], [("stay", 0, 0)], movements[:12], [movements[-1]] * 12, movements[-12:]]
    wishes += [[movement] for movement in some]
    wishes += [[one, other, one] for one, other in itertools.combinations(some, 2)]
    return wishes


CARPETS = (*DRAWN[:17], *some_carpets(2, "abc", 8), *some_carpets(3, "abc", 8), *some_carpets(4, "ab", 3),
           *some_carpets(8, "abc", 1))


class Mended(unittest.TestCase):
    def check(self, carpet, wish):
        side = len(carpet)
        given = list(wish)
        told = mended(carpet, wish)
        self.assertEqual(wish, given)
        self.assertIsInstance(told, tuple)
        come, changed, paper = told
        self.assertEqual(changed, places_unlike(carpet, come))
        self.assertEqual([places for places, colour, many in paper], circles(side, wish))
        for places, colour, many in paper:
            knots = [carpet[r][c] for r, c in places]
            most = max(knots.count(x) for x in knots)
            self.assertEqual(colour, min(x for x in knots if knots.count(x) == most))
            self.assertEqual(many, most)
            self.assertEqual({come[r][c] for r, c in places}, {colour})
        self.assertEqual(len(changed), sum(len(places) - many for places, colour, many in paper))
        for movement in wish:
            self.assertTrue(leaves(come, movement))
        return told

    def test_by_hand(self):
        self.assertEqual(mended(("ab", "cb"), [("stay", 1, 0)]),
                         (("ab", "ab"), [(1, 0)], [([(0, 0), (1, 0)], "a", 1), ([(0, 1), (1, 1)], "b", 2)]))
        self.assertEqual(mended(("ab", "ab"), []),
                         (("ab", "ab"), [], [([(0, 0)], "a", 1), ([(0, 1)], "b", 1), ([(1, 0)], "a", 1), ([(1, 1)],
                                                                                                          "b", 1)]))
        self.assertEqual(mended(("q",), [("turn", 0, 0)]), (("q",), [], [([(0, 0)], "q", 1)]))
        self.assertEqual(mended(("ba", "cc"), all_movements(2))[:2], (("cc", "cc"), [(0, 0), (0, 1)]))

    def test_of_several_colours_the_least(self):
        self.assertEqual(mended(("ba", "ab"), [("stay", 0, 1)])[:2], (("aa", "aa"), [(0, 0), (1, 1)]))
        self.assertEqual(mended(("zy", "xx"), [("stay", 0, 1)])[:2], (("yy", "xx"), [(0, 0)]))
        self.assertEqual(mended(("dc", "cd"), all_movements(2))[0], ("cc", "cc"))

    def test_as_it_is_told(self):
        for carpet in CARPETS:
            for wish in wishes_of(len(carpet)):
                self.check(carpet, wish)

    def test_what_is_left_already_stays(self):
        for carpet in CARPETS:
            self.assertEqual(mended(carpet, leaving(carpet)[:12])[:2], (carpet, []))

    def test_no_carpet_that_the_wish_leaves_is_nearer(self):
        for side, colours in ((1, "ab"), (2, "abc"), (3, "ab")):
            everything = carpets_of(side, colours)
            for carpet in everything[::1 if side < 3 else 41]:
                for wish in wishes_of(side)[::2 if side < 3 else 7]:
                    left = [other for other in everything if all(leaves(other, movement) for movement in wish)]
                    fewest = min(len(places_unlike(carpet, other)) for other in left)
                    self.assertEqual(len(mended(carpet, wish)[1]), fewest)

    def test_what_is_told_is_the_askers_own(self):
        wanted = mended(("ab", "cb"), [("stay", 1, 0)])
        told = mended(("ab", "cb"), [("stay", 1, 0)])
        told[1].clear()
        told[2][0][0].clear()
        told[2].clear()
        self.assertEqual(mended(("ab", "cb"), [("stay", 1, 0)]), wanted)


class MendedTowards(unittest.TestCase):
    def test_by_hand(self):
        wish = [("stay", 0, 1)]
        self.assertEqual(mended_towards(("ba", "ab"), ("bb", "bb"), wish)[:2], (("bb", "bb"), [(0, 1), (1, 0)]))
        self.assertEqual(mended_towards(("ba", "ab"), ("bb", "aa"), wish)[:2], (("bb", "aa"), [(0, 1), (1, 1)]))
        self.assertEqual(mended_towards(("ba", "cb"), ("zz", "cc"), wish)[:2], (("aa", "cc"), [(0, 0), (1, 1)]))
        self.assertEqual(mended_towards(("aaa", "aba", "aaa"), ("bbb",) * 3, [("stay", 0, 1)])[0], ("aaa", "aaa",
                                                                                                    "aaa"))

    def test_the_others_colour_where_as_many_have_it_else_the_least(self):
        for carpet, other in itertools.product((*some_carpets(2, "abc", 12), *some_carpets(3, "abc", 6)),
                                               carpets_of(2, "abc")):
            if len(carpet) == 3:
                other = tuple(row + row[0] for row in other + other[:1])
            side = len(carpet)
            wish = leaving(other)[::2][:12]
            come, changed, paper = mended_towards(carpet, other, wish)
            self.assertEqual(changed, places_unlike(carpet, come))
            self.assertEqual(len(changed), len(mended(carpet, wish)[1]))
            self.assertEqual([places for places, colour, many in paper], circles(side, wish))
            for places, colour, many in paper:
                knots = [carpet[r][c] for r, c in places]
                most = max(knots.count(x) for x in knots)
                best = sorted({x for x in knots if knots.count(x) == most})
                liked = other[places[0][0]][places[0][1]]
                self.assertEqual((colour, many), (liked if liked in best else best[0], most))
                self.assertEqual({come[r][c] for r, c in places}, {colour})
            for movement in wish:
                self.assertTrue(leaves(come, movement))

    def test_unlike_sides(self):
        for one, other in ((("a",), ("aa", "aa")), (("aaa",) * 3, ("a",))):
            for wish in ([], [("turn", 0, 0)], [("stay", 0, 2)]):
                with self.assertRaises(Unlike) as refused:
                    mended_towards(one, other, wish)
                self.assertIsInstance(refused.exception, CarpetError)

    def test_no_wish(self):
        other = ("ab", "ab")
        good = ("stay", 1, 0)
        for wish, place in (([("stay", 0, 1)], 0), ([good, ("stay", 0, 1)], 1), ([good, good, ("turn", 0, 0), ("stay",
                                                                                                               0, 1)],
                                                                                                               2),
                            ([good] * 11 + [("stay", 1, 1)], 11)):
            with self.assertRaises(NoWish) as refused:
                mended_towards(("aa", "aa"), other, wish)
            self.assertIsInstance(refused.exception, CarpetError)
            self.assertEqual(refused.exception.place, place)
        self.assertEqual(mended_towards(("aa", "aa"), other, [good])[0], ("aa", "aa"))

    def test_nothing_is_changed_or_kept(self):
        wish = [("stay", 0, 1)]
        told = mended_towards(("ba", "ab"), ("bb", "bb"), wish)
        told[1].clear()
        told[2][0][0].clear()
        self.assertEqual(wish, [("stay", 0, 1)])
        self.assertEqual(mended_towards(("ba", "ab"), ("bb", "bb"), wish)[1], [(0, 1), (1, 0)])


if __name__ == "__main__":
    unittest.main()
