import unittest

from carpetkin.errors import Misfit, NoName, TooWide
from carpetkin.motifs import Above, Across, Beside, Down, Dyed, Motif, Named, Plain, Turned

ROSE = Named("rose")
TWO = Plain(("ab", "cd"))
WIDE = Plain(("abc",))
WAYS = ("turn", "half", "back", "side", "flip", "cross", "other")
EACH = (
    (TWO, "[ab/cd]"),
    (ROSE, "rose"),
    (Beside((TWO, ROSE)), "beside([ab/cd], rose)"),
    (Above((ROSE, TWO, ROSE)), "above(rose, [ab/cd], rose)"),
    (Across(12, ROSE), "across(12, rose)"),
    (Down(3, TWO), "down(3, [ab/cd])"),
    (Dyed("a", "z", ROSE), "dye(a, z, rose)"),
    *[(Turned(way, ROSE), way + "(rose)") for way in WAYS],
    (Beside((Turned("turn", Across(2, ROSE)), Dyed("a", "a", TWO))),
     "beside(turn(across(2, rose)), dye(a, a, [ab/cd]))"),
)


def nested(deep):
    motif = TWO
    while motif.deep() < deep:
        motif = Turned("turn", motif)
    return motif


class WhatTheyAre(unittest.TestCase):
    def test_all_stand_under_motif(self):
        for kind in (Plain, Named, Beside, Above, Across, Down, Turned, Dyed):
            self.assertTrue(issubclass(kind, Motif))
        self.assertIsInstance(Motif(), Motif)

    def test_fields(self):
        self.assertEqual(TWO.rows, ("ab", "cd"))
        self.assertEqual(ROSE.name, "rose")
        for kind in (Beside, Above):
            self.assertEqual([part.text() for part in kind((TWO, ROSE)).parts], ["[ab/cd]", "rose"])
            self.assertIsInstance(kind((TWO, ROSE)).parts, tuple)
        for kind in (Across, Down):
            self.assertEqual((kind(7, ROSE).many, kind(7, ROSE).part.text()), (7, "rose"))
        self.assertEqual((Turned("flip", ROSE).way, Turned("flip", ROSE).part.text()), ("flip", "rose"))
        dyed = Dyed("x", "y", ROSE)
        self.assertEqual((dyed.one, dyed.other, dyed.part.text()), ("x", "y", "rose"))

    def test_text(self):
        for motif, text in EACH:
            with self.subTest(text):
                self.assertEqual(motif.text(), text)

    def test_the_same_where_written_alike(self):
        self.assertEqual(Beside((TWO, ROSE)), Beside((Plain(("ab", "cd")), Named("rose"))))
        self.assertNotEqual(Beside((TWO, ROSE)), Above((TWO, ROSE)))
        self.assertNotEqual(ROSE, "rose")
        for one, text in EACH:
            for other, written in EACH:
                self.assertEqual(one == other, text == written)

    def test_deep(self):
        self.assertEqual((TWO.deep(), ROSE.deep()), (1, 1))
        self.assertEqual(Beside((TWO, ROSE)).deep(), 2)
        self.assertEqual(Above((ROSE, Across(2, Down(3, ROSE)), TWO)).deep(), 4)
        self.assertEqual(Dyed("a", "b", Turned("half", ROSE)).deep(), 3)
        for deep in range(1, 12):
            self.assertEqual(nested(deep).deep(), deep)


class Names(unittest.TestCase):
    def test_sorted_each_once(self):
        motif = Beside((Named("z"), Above((Named("a"), Named("z"), Turned("turn", Named("m")))), TWO))
        self.assertEqual(motif.names(), ["a", "m", "z"])
        self.assertEqual(TWO.names(), [])
        self.assertEqual(ROSE.names(), ["rose"])
        self.assertEqual(Dyed("a", "b", Across(2, Down(2, ROSE))).names(), ["rose"])

    def test_the_list_is_the_askers_own(self):
        motif = Beside((Named("z"), ROSE))
        motif.names().append("more")
        ROSE.names().clear()
        self.assertEqual(motif.names(), ["rose", "z"])
        self.assertEqual(ROSE.names(), ["rose"])


class Sizes(unittest.TestCase):
    def test_each_form(self):
        known = {"rose": (2, 3)}
        self.assertEqual(TWO.size({}, 0), (2, 2))
        self.assertEqual(ROSE.size(known, 0), (2, 3))
        self.assertEqual(Beside((TWO, ROSE, ROSE)).size(known, 0), (2, 8))
        self.assertEqual(Above((ROSE, WIDE)).size(known, 0), (3, 3))
        self.assertEqual(Across(8, ROSE).size(known, 0), (2, 24))
        self.assertEqual(Down(12, ROSE).size(known, 0), (24, 3))
        self.assertEqual(Dyed("a", "b", ROSE).size(known, 0), (2, 3))
        for way in WAYS:
            lies = way in ("turn", "back", "cross", "other")
            self.assertEqual(Turned(way, ROSE).size(known, 0), (3, 2) if lies else (2, 3))
        self.assertEqual(known, {"rose": (2, 3)})

    def test_no_name(self):
        for motif in (ROSE, Turned("turn", ROSE), Beside((TWO, ROSE)), Across(2, ROSE), Dyed("a", "b", Down(1, ROSE))):
            with self.assertRaises(NoName) as refused:
                motif.size({"ros": (1, 1)}, 7)
            self.assertEqual((refused.exception.row, refused.exception.name), (7, "rose"))

    def refused(self, kind, motif, row=5):
        with self.assertRaises(kind) as refused:
            motif.size({"rose": (2, 3)}, row)
        self.assertEqual(refused.exception.row, row)
        return refused.exception

    def test_misfit(self):
        self.refused(Misfit, Beside((TWO, WIDE)))
        self.refused(Misfit, Above((TWO, WIDE)))
        self.refused(Misfit, Beside((TWO, TWO, WIDE)))
        self.refused(Misfit, Across(2, Above((TWO, ROSE))), 0)

    def test_too_wide(self):
        for k in (24, 25):
            for motif in (Across(k, Plain(("a", "b"))), Down(k, Plain(("ab",)))):
                if k == 25:
                    self.refused(TooWide, motif)
                else:
                    motif.size({}, 0)
        self.refused(TooWide, Across(9, ROSE))
        self.refused(TooWide, Down(13, ROSE))
        self.refused(TooWide, Beside((Across(12, TWO), Plain(("a", "b")))))
        self.refused(TooWide, Above((Down(12, TWO), Plain(("ab",)))))
        self.refused(TooWide, Turned("turn", Across(13, TWO)))

    def test_misfit_ahead_of_too_wide_at_the_same_two(self):
        wide = Across(24, Plain(("a",)))
        self.refused(Misfit, Beside((wide, TWO)))
        self.refused(Misfit, Above((Turned("turn", wide), TWO)))

    def test_the_first_two_first(self):
        wide = Across(24, Plain(("a",)))
        one = Plain(("a",))
        self.refused(TooWide, Beside((wide, one, TWO)))
        self.refused(Misfit, Beside((TWO, wide, wide)))
        self.refused(Misfit, Beside((one, TWO, wide)))
        tall = Turned("turn", wide)
        self.refused(TooWide, Above((tall, one, TWO)))

    def test_parts_from_the_left_and_then_itself(self):
        wide = Across(25, Plain(("a",)))
        misfit = Above((TWO, WIDE))
        unknown = Named("lily")
        self.refused(NoName, Beside((TWO, WIDE, unknown)))
        self.refused(NoName, Beside((unknown, wide, misfit)))
        self.refused(TooWide, Beside((wide, misfit, unknown)))
        self.refused(Misfit, Above((misfit, unknown, wide)))
        self.assertEqual(self.refused(NoName, Above((Named("b"), Named("a")))).name, "b")
        self.refused(Misfit, Across(25, misfit))
        self.refused(NoName, Down(25, Down(25, unknown)))
        self.refused(Misfit, Turned("turn", Dyed("a", "b", Beside((TWO, WIDE)))))


class Cloths(unittest.TestCase):
    def test_each_form(self):
        known = {"rose": ("xyz", "uvw")}
        wanted = (
            (TWO, ("ab", "cd")),
            (ROSE, ("xyz", "uvw")),
            (Beside((TWO, ROSE, TWO)), ("abxyzab", "cduvwcd")),
            (Above((ROSE, WIDE, ROSE)), ("xyz", "uvw", "abc", "xyz", "uvw")),
            (Across(3, TWO), ("ababab", "cdcdcd")),
            (Down(2, WIDE), ("abc", "abc")),
            (Across(1, ROSE), ("xyz", "uvw")),
            (Turned("turn", ROSE), ("ux", "vy", "wz")),
            (Turned("half", ROSE), ("wvu", "zyx")),
            (Turned("back", ROSE), ("zw", "yv", "xu")),
            (Turned("side", ROSE), ("zyx", "wvu")),
            (Turned("flip", ROSE), ("uvw", "xyz")),
            (Turned("cross", ROSE), ("xu", "yv", "zw")),
            (Turned("other", ROSE), ("wz", "vy", "ux")),
            (Dyed("x", "u", ROSE), ("uyz", "xvw")),
            (Dyed("x", "a", ROSE), ("ayz", "uvw")),
            (Dyed("x", "x", ROSE), ("xyz", "uvw")),
            (Dyed("a", "b", ROSE), ("xyz", "uvw")),
            (Beside((Turned("turn", WIDE), Down(3, Plain(("d",))))), ("ad", "bd", "cd")),
            (Dyed("a", "x", Above((Across(2, Turned("side", TWO)), Plain(("axax",))))), ("bxbx", "dcdc", "xaxa")),
        )
        for motif, cloth in wanted:
            with self.subTest(motif.text()):
                self.assertEqual(motif.cloth(known), cloth)
        self.assertEqual(known, {"rose": ("xyz", "uvw")})

    def test_size_and_counts_against_the_cloth(self):
        cloths = {"rose": ("abca", "ccba")}
        sizes = {"rose": (2, 4)}
        counts = {"rose": {"a": 3, "b": 2, "c": 3}}
        parts = (ROSE, Dyed("a", "b", ROSE), Dyed("c", "q", Turned("flip", ROSE)), Plain(("zzzz", "zzab")))
        for one in parts:
            for other in parts:
                for motif in (Beside((one, other)), Above((one, other, one)), Across(3, one), Down(4, other),
                              Turned("cross", Beside((one, other))), Dyed("b", "z", Above((one, other)))):
                    cloth = motif.cloth(cloths)
                    self.assertEqual(motif.size(sizes, 0), (len(cloth), len(cloth[0])))
                    knots = "".join(cloth)
                    self.assertEqual(motif.counts(counts), {colour: knots.count(colour) for colour in knots})

    def test_counts_by_hand(self):
        known = {"rose": {"a": 2, "b": 1}}
        self.assertEqual(ROSE.counts(known), {"a": 2, "b": 1})
        self.assertEqual(Plain(("aab", "bxx")).counts(known), {"a": 2, "b": 2, "x": 2})
        self.assertEqual(Beside((ROSE, ROSE, Plain(("c",)))).counts(known), {"a": 4, "b": 2, "c": 1})
        self.assertEqual(Above((ROSE, ROSE)).counts(known), {"a": 4, "b": 2})
        self.assertEqual(Across(5, ROSE).counts(known), {"a": 10, "b": 5})
        self.assertEqual(Down(6, ROSE).counts(known), {"a": 12, "b": 6})
        for way in WAYS:
            self.assertEqual(Turned(way, ROSE).counts(known), {"a": 2, "b": 1})
        self.assertEqual(Dyed("a", "b", ROSE).counts(known), {"a": 1, "b": 2})
        self.assertEqual(Dyed("b", "c", ROSE).counts(known), {"a": 2, "c": 1})
        self.assertEqual(Dyed("y", "z", ROSE).counts(known), {"a": 2, "b": 1})
        self.assertEqual(Dyed("a", "a", ROSE).counts(known), {"a": 2, "b": 1})

    def test_told_counts_are_the_askers_own(self):
        known = {"rose": {"a": 2}}
        for motif in (ROSE, Turned("turn", ROSE), Across(1, ROSE), Beside((ROSE, ROSE)), Dyed("x", "y", ROSE)):
            wanted = motif.counts(known)
            told = motif.counts(known)
            told["a"] = 99
            told["more"] = 1
            self.assertEqual(motif.counts(known), wanted)
            self.assertEqual(known, {"rose": {"a": 2}})


class Put(unittest.TestCase):
    def test_everywhere_and_there_alone(self):
        inner = Turned("turn", TWO)
        for motif, text in EACH:
            with self.subTest(text):
                self.assertEqual(motif.put("rose", inner).text(), text.replace("rose", "turn([ab/cd])"))
                self.assertEqual(motif.put("lily", inner).text(), text)
                self.assertEqual(motif.put("ros", inner).text(), text)

    def test_the_name_within_what_is_put_in_stays(self):
        motif = Beside((ROSE, Above((ROSE, Named("lily")))))
        self.assertEqual(motif.put("rose", Across(2, ROSE)).text(),
                         "beside(across(2, rose), above(across(2, rose), lily))")

    def test_both_stay(self):
        for motif, text in EACH:
            inner = Beside((ROSE, TWO))
            motif.put("rose", inner)
            self.assertEqual(motif.text(), text)
            self.assertEqual(inner.text(), "beside(rose, [ab/cd])")

    def test_kinds_stay(self):
        for motif, text in EACH:
            self.assertIs(motif.put("lily", TWO).__class__, motif.__class__)
        self.assertIsInstance(Beside((ROSE, TWO)).put("rose", TWO).parts, tuple)

    def test_it_knots_the_same_as_ahead(self):
        inner = Dyed("a", "x", Turned("half", Plain(("ab", "ca"))))
        cloth = inner.cloth({})
        for motif in (ROSE, Beside((ROSE, ROSE)), Above((ROSE, Turned("turn", ROSE))), Across(3, Down(2, ROSE)),
                      Dyed("x", "b", ROSE), Turned("other", Beside((ROSE, TWO)))):
            self.assertEqual(motif.put("rose", inner).cloth({}), motif.cloth({"rose": cloth}))


if __name__ == "__main__":
    unittest.main()
