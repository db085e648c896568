"""Points 6, 7 and 8: nests, how they are seen, their words and depth."""

import functools
import itertools
import unittest

from tests.samples import (
    comb, flat, nests_of, no_nests, no_whole_numbers, refused_as, small_nests,
)
from turnnest.errors import NoNest
from turnnest.nests import depth, is_nest, seen, words_of


def fits(thing, outer):
    """A nest by the document's words, for small things."""
    if thing is None:
        return True
    if type(thing) is not tuple or len(thing) != 2 or thing[0] not in ("+", "-"):
        return False
    if type(thing[1]) is not tuple or len(thing[1]) < 2 or thing[0] == outer:
        return False
    return all(fits(part, thing[0]) for part in thing[1])


def paths(nest):
    """For each word the parts taken on the way to it."""
    if nest is None:
        return [()]
    return [(at,) + rest for at, part in enumerate(nest[1]) for rest in paths(part)]


def seen_by_pairs(nest):
    """Two words are seen as in the text just where the least knot with both is `+`."""
    ways = paths(nest)

    def compare(one, other):
        knot = nest
        for step, other_step in zip(ways[one], ways[other]):
            if step != other_step:
                sooner = (step < other_step) == (knot[0] == "+")
                return -1 if sooner else 1
            knot = knot[1][step]
        return 0

    return tuple(sorted(range(len(ways)), key=functools.cmp_to_key(compare)))


class IsNestTest(unittest.TestCase):
    def test_a_word(self):
        self.assertIs(is_nest(None), True)

    def test_by_hand(self):
        for nest in (
            ("+", (None, None)), ("-", (None, None)), ("+", (None, None, None)),
            ("+", (None, ("-", (None, None)), None)),
            ("-", (("+", (None, None)), ("+", (None, None, None)))),
            ("+", (("-", (None, ("+", (None, None)))), None)),
        ):
            self.assertIs(is_nest(nest), True)

    def test_all_small_nests(self):
        for nest in small_nests(6):
            self.assertIs(is_nest(nest), True)

    def test_knots_of_small_things_against_the_words_of_the_document(self):
        bricks = [None, "+", "-", (), (None,), (None, None), [None, None], 0, ""]
        level = [("+", parts) for parts in bricks] + [("-", parts) for parts in bricks]
        parts = bricks + level
        for kind in ("+", "-", "*", None):
            for pair in itertools.product(parts, repeat=2):
                thing = (kind, pair)
                self.assertIs(is_nest(thing), fits(thing, ""))
                within = ("-", (None, thing))
                self.assertIs(is_nest(within), fits(within, ""))

    def test_what_is_no_nest(self):
        for thing in no_nests():
            self.assertIs(is_nest(thing), False)

    def test_anything_else(self):
        for thing in no_whole_numbers():
            if thing is not None:
                self.assertIs(is_nest(thing), False)
                self.assertIs(is_nest(("+", (None, thing))), False)
                self.assertIs(is_nest(("-", (thing, None))), False)
            if not (type(thing) is str and thing in "+-" and thing):
                self.assertIs(is_nest((thing, (None, None))), False)
            self.assertIs(is_nest(("+", thing)), False)

    def test_sixty_words_and_sixty_one(self):
        for kind, other in (("+", "-"), ("-", "+")):
            self.assertIs(is_nest(flat(kind, 60)), True)
            self.assertIs(is_nest(flat(kind, 61)), False)
            self.assertIs(is_nest((kind, (flat(other, 30), flat(other, 30)))), True)
            self.assertIs(is_nest((kind, (flat(other, 30), flat(other, 31)))), False)
            self.assertIs(is_nest((kind, (flat(other, 31), flat(other, 30)))), False)
            self.assertIs(is_nest((kind, (flat(other, 2),) * 30)), True)
            self.assertIs(is_nest((kind, (flat(other, 2),) * 30 + (None,))), False)
            self.assertIs(is_nest((kind, (None,) + (flat(other, 2),) * 30)), False)

    def test_depth_up_to_120(self):
        for deep in range(0, 121):
            self.assertIs(is_nest(comb(deep)), deep <= 59)
            left_comb = None
            for level in range(deep):
                left_comb = ("+-"[level % 2], (left_comb, None))
            self.assertIs(is_nest(left_comb), deep <= 59)


class SeenTest(unittest.TestCase):
    def test_by_hand(self):
        self.assertEqual(seen(None), (0,))
        self.assertEqual(seen(("+", (None, None, None))), (0, 1, 2))
        self.assertEqual(seen(("-", (None, None, None))), (2, 1, 0))
        self.assertEqual(seen(("+", (None, ("-", (None, None)), None))), (0, 2, 1, 3))
        self.assertEqual(seen(("-", (None, ("+", (None, None)), None))), (3, 1, 2, 0))
        self.assertEqual(seen(("-", (flat("+", 2), flat("+", 3)))), (2, 3, 4, 0, 1))
        self.assertEqual(seen(("+", (flat("-", 2), flat("-", 3)))), (1, 0, 4, 3, 2))
        inner = ("-", (None, ("+", (None, flat("-", 2)))))
        self.assertEqual(seen(("+", (inner, None))), (1, 3, 2, 0, 4))

    def test_all_small_nests(self):
        for nest in small_nests(6):
            told = seen(nest)
            self.assertIs(type(told), tuple)
            self.assertEqual(told, seen_by_pairs(nest))

    def test_different_nests_are_seen_differently(self):
        for many, expected in ((1, 1), (2, 2), (3, 6), (4, 22), (5, 90)):
            self.assertEqual(len({seen(nest) for nest in nests_of(many)}), expected)

    def test_sixty_words(self):
        self.assertEqual(seen(flat("+", 60)), tuple(range(60)))
        self.assertEqual(seen(flat("-", 60)), tuple(range(59, -1, -1)))
        for nest in (comb(59), comb(59, "-"), ("-", (flat("+", 2),) * 30)):
            self.assertEqual(seen(nest), seen_by_pairs(nest))

    def test_what_is_no_nest(self):
        for thing in no_nests():
            refused_as(self, NoNest, seen, thing)


class WordsAndDepthTest(unittest.TestCase):
    def test_by_hand(self):
        self.assertEqual((words_of(None), depth(None)), (1, 0))
        for nest, words, deep in (
            (flat("+", 2), 2, 1),
            (flat("-", 7), 7, 1),
            (("+", (None, flat("-", 2), None)), 4, 2),
            (("-", (flat("+", 3), None, ("+", (None, flat("-", 2))))), 7, 3),
            (("-", (("+", (None, flat("-", 2))), None, flat("+", 3))), 7, 3),
        ):
            self.assertEqual((words_of(nest), depth(nest)), (words, deep))

    def test_all_small_nests(self):
        for many in range(1, 7):
            for nest in nests_of(many):
                self.assertIs(type(words_of(nest)), int)
                self.assertIs(type(depth(nest)), int)
                self.assertEqual(words_of(nest), many)
                self.assertEqual(depth(nest), max(len(path) for path in paths(nest)))

    def test_up_to_59_deep(self):
        for deep in range(60):
            for last_kind in ("+", "-"):
                nest = comb(deep, last_kind)
                self.assertEqual((words_of(nest), depth(nest)), (deep + 1, deep))

    def test_sixty_words(self):
        self.assertEqual((words_of(flat("-", 60)), depth(flat("-", 60))), (60, 1))

    def test_what_is_no_nest(self):
        for thing in no_nests():
            refused_as(self, NoNest, words_of, thing)
            refused_as(self, NoNest, depth, thing)


if __name__ == "__main__":
    unittest.main()
