"""Carpets to try things on."""

import itertools
import random


def carpets_of(side, colours):
    """All carpets of a side with these colours."""
    rows = ["".join(signs) for signs in itertools.product(colours, repeat=side)]
    return list(itertools.product(rows, repeat=side))


def some_carpets(side, colours, many, seed=1):
    chance = random.Random(seed)
    return [tuple("".join(chance.choice(colours) for c in range(side)) for r in range(side)) for k in range(many)]


DRAWN = (
    ("a",),
    ("aa", "aa"),
    ("ab", "ab"),
    ("ab", "ba"),
    ("aa", "ab"),
    ("aaa", "aaa", "aaa"),
    ("abc", "bca", "cab"),
    ("aab", "aab", "aab"),
    ("aaa", "aba", "aaa"),
    ("abc", "def", "ghi"),
    ("abab", "baba", "abab", "baba"),
    ("aabb", "aabb", "bbaa", "bbaa"),
    ("abcd", "dabc", "cdab", "bcda"),
    ("abba", "cddc", "cddc", "abba"),
    ("aaab", "aaab", "abbb", "aaab"),
    ("abcd", "efgh", "ijkl", "mnop"),
    ("aabaa", "abcba", "bcacb", "abcba", "aabaa"),
    ("abcabc", "bcabca", "abcabc", "bcabca", "abcabc", "bcabca"),
    ("aabbcc", "aabbcc", "ccaabb", "ccaabb", "bbccaa", "bbccaa"),
    ("aaaaaaa",) * 7,
    ("abababab", "babababa") * 4,
    ("aaaabbbb",) * 4 + ("bbbbaaaa",) * 4,
    ("abcdabcd", "dabcdabc", "cdabcdab", "bcdabcda") * 2,
    ("aaaaaaaa",) * 7 + ("aaaaaaab",),
)
