"""Points 13 and 14: how many nests there are, and their numbers."""

import math
import random
import unittest

from tests.samples import (
    GREAT, comb, flat, great_nests, left_comb, nests_of, no_nests, orders_of, refused_as,
)
from turnnest.cuts import nest_of
from turnnest.errors import NoNest, NoNumber
from turnnest.nestnotes import show_nest
from turnnest.nests import is_nest, seen, words_of
from turnnest.numbers import how_many, nest_at, number_of, of_kind

BY_HAND = {
    1: ["."],
    2: ["(+..)", "(-..)"],
    3: ["(+.(-..))", "(+...)", "(+(-..).)", "(-.(+..))", "(-...)", "(-(+..).)"],
    4: [
        "(+.(-.(+..)))", "(+.(-...))", "(+.(-(+..).))", "(+..(-..))", "(+....)", "(+.(-..).)",
        "(+(-..)(-..))", "(+(-..)..)", "(+(-.(+..)).)", "(+(-...).)", "(+(-(+..).).)",
        "(-.(+.(-..)))", "(-.(+...))", "(-.(+(-..).))", "(-..(+..))", "(-....)", "(-.(+..).)",
        "(-(+..)(+..))", "(-(+..)..)", "(-(+.(-..)).)", "(-(+...).)", "(-(+(-..).).)",
    ],
}


def by_paths(many):
    """The same number told by another sum: paths with steps aslant and straight ones among them."""
    steps = many - 1
    return sum(math.comb(steps + up, 2 * up) * math.comb(2 * up, up) // (up + 1) for up in range(steps + 1))


def place_in_order(nest):
    """The document's order within a kind, as a thing to be sorted by."""
    return () if nest is None else several(nest[1])


def several(parts):
    first, rest = parts[0], parts[1:]
    behind = (0, place_in_order(rest[0])) if len(rest) == 1 else (1, several(rest))
    return (words_of(first), place_in_order(first), behind)


def nests_in_order(many):
    return sorted(nests_of(many), key=lambda nest: (nest is not None and nest[0] == "-", place_in_order(nest)))


class CountsTest(unittest.TestCase):
    def test_one_to_six_words(self):
        self.assertEqual([how_many(many) for many in range(1, 7)], [1, 2, 6, 22, 90, 394])
        self.assertEqual([of_kind(many) for many in range(1, 7)], [0, 1, 3, 11, 45, 197])

    def test_by_all_orders_of_up_to_six_words(self):
        for many in range(1, 7):
            nests = [nest_of(order) for order in orders_of(many)]
            nests = [nest for nest in nests if nest != "barred"]
            self.assertEqual(how_many(many), len(nests))
            for kind in "+-":
                of_this = [nest for nest in nests if nest is not None and nest[0] == kind]
                self.assertEqual(of_kind(many), len(of_this))

    def test_all_up_to_sixty_words(self):
        for many in range(1, 61):
            self.assertIs(type(how_many(many)), int)
            self.assertIs(type(of_kind(many)), int)
            self.assertEqual(how_many(many), by_paths(many))
            self.assertEqual(2 * of_kind(many), by_paths(many) if many > 1 else 0)


class NumbersTest(unittest.TestCase):
    def test_by_hand(self):
        for many, notes in BY_HAND.items():
            self.assertEqual([show_nest(nest_at(many, number)) for number in range(len(notes))], notes)

    def test_all_nests_of_up_to_six_words(self):
        for many in range(1, 7):
            nests = nests_in_order(many)
            self.assertEqual(len(nests), how_many(many))
            for number, nest in enumerate(nests):
                self.assertEqual(nest_at(many, number), nest)
                self.assertEqual(number_of(nest), number)
                self.assertIs(type(number_of(nest)), int)

    def test_there_and_back_for_great_nests(self):
        for nest in great_nests():
            number = number_of(nest)
            many = words_of(nest)
            self.assertEqual(number >= of_kind(many), nest[0] == "-")
            self.assertEqual(nest_at(many, number), nest)

    def test_great_nests_stand_in_the_documents_order(self):
        of_sixty = [nest for nest in great_nests() if words_of(nest) == 60]
        for kind in "+-":
            nests = [nest for nest in of_sixty if nest[0] == kind]
            self.assertEqual(sorted(nests, key=number_of), sorted(nests, key=place_in_order))

    def test_there_and_back_for_great_numbers(self):
        chance = random.Random(14)
        for many in range(1, 61):
            whole = how_many(many)
            numbers = [0, whole - 1, whole // 2, max(whole // 2 - 1, 0)]
            numbers += [chance.randrange(whole) for _ in range(10)]
            for number in numbers:
                nest = nest_at(many, number)
                self.assertIs(is_nest(nest), True)
                self.assertEqual(len(seen(nest)), many)
                self.assertEqual(number_of(nest), number)

    def test_the_first_and_the_last(self):
        for many in range(2, 61):
            first = comb(many - 1, "+" if many % 2 == 0 else "-")
            last = left_comb(many - 1, "-" if many % 2 == 0 else "+")
            self.assertEqual(nest_at(many, 0), first)
            self.assertEqual(nest_at(many, how_many(many) - 1), last)
            self.assertEqual(number_of(first), 0)
            self.assertEqual(number_of(last), how_many(many) - 1)

    def test_kinds_have_their_numbers_alike(self):
        for many in (2, 3, 7, 59, 60):
            self.assertEqual(number_of(flat("-", many)) - number_of(flat("+", many)), of_kind(many))

    def test_numbers_that_no_nest_has(self):
        for many in range(1, 61):
            whole = how_many(many)
            for number in (-1, -2, -whole, whole, whole + 1, 2 * whole, GREAT, -GREAT, 10 ** 700 - 1, 1 - 10 ** 700):
                refused_as(self, NoNumber, nest_at, many, number)

    def test_what_is_no_nest(self):
        for thing in no_nests() + ["barred"]:
            refused_as(self, NoNest, number_of, thing)


if __name__ == "__main__":
    unittest.main()
