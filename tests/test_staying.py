"""Points 1 and 15: the most words of an order that may stay."""

import itertools
import random
import unittest

from tests.samples import comb, flat, great_nests, left_comb, refused_as, small_nests, small_orders
from turnnest.cuts import nest_of
from turnnest.errors import TooMany
from turnnest.nests import seen
from turnnest.orders import left_of
from turnnest.staying import most_staying


def barred_fours(order):
    """All fours of words that are seen as b d a c or as c a d b, each as bits of a number."""
    fours = []
    for seen_so in itertools.combinations(order, 4):
        a, b, c, d = sorted(seen_so)
        if seen_so in ((b, d, a, c), (c, a, d, b)):
            fours.append(sum(1 << word for word in seen_so))
    return fours


def most_by_sets(order):
    """How many words the greatest sets have that hold no barred four, found by going through the sets."""
    fours = barred_fours(order)
    for many in range(len(order), 0, -1):
        for words in itertools.combinations(range(len(order)), many):
            bits = sum(1 << word for word in words)
            if all(four & bits != four for four in fours):
                return many
    return 0


def most_by_nests(order):
    """The same by asking for the nest of what is left."""
    for many in range(len(order), 0, -1):
        for words in itertools.combinations(range(len(order)), many):
            if nest_of(left_of(order, list(words))) != "barred":
                return many
    return 0


def shuffled(chance, many):
    order = list(range(many))
    chance.shuffle(order)
    return tuple(order)


def put_bars(bar, inner):
    """A bar with each of its words' places taken by an order."""
    return tuple(word * len(inner) + number for word in bar for number in inner)


def great_orders():
    chance = random.Random(15)
    orders = [shuffled(chance, many) for many in range(6, 13) for _ in range(25)]
    for bar in ((1, 3, 0, 2), (2, 0, 3, 1)):
        for inner in ((0, 1), (1, 0), (0, 1, 2), (2, 1, 0), (1, 0, 2), (1, 2, 0)):
            orders.append(put_bars(bar, inner))
        # bars beside one another, and one above another
        orders.append(tuple(4 * third + word for third in range(3) for word in bar))
        orders.append(tuple(4 * third + word for third in (2, 1, 0) for word in bar))
    # each word far from both of its neighbours
    orders.append((5, 7, 0, 8, 3, 9, 1, 10, 4, 11, 6, 2))
    orders.append(tuple(5 * place % 12 for place in range(12)))
    orders.append(tuple((place * 4 % 13) - 1 for place in range(1, 13)))
    return orders


class MostStayingTest(unittest.TestCase):
    def assert_told(self, order, many):
        told = most_staying(order)
        self.assertIs(type(told), list)
        self.assertEqual([type(word) for word in told], [int] * len(told))
        self.assertEqual(told, sorted(set(told)))
        self.assertLessEqual(set(told), set(order))
        self.assertNotEqual(nest_of(left_of(order, told)), "barred", order)
        self.assertEqual(len(told), many, order)

    def test_by_hand(self):
        self.assertEqual(most_staying((0,)), [0])
        self.assertEqual(most_staying((1, 0)), [0, 1])
        self.assertEqual(most_staying((2, 0, 1)), [0, 1, 2])
        self.assertEqual(most_staying((3, 1, 2, 0)), [0, 1, 2, 3])
        threes = [[0, 1, 2], [0, 1, 3], [0, 2, 3], [1, 2, 3]]
        self.assertIn(most_staying((1, 3, 0, 2)), threes)
        self.assertIn(most_staying((2, 0, 3, 1)), threes)
        # The one bar is of the words 0, 1, 3 and 4; without any one of them the others may stay.
        self.assertIn(most_staying((1, 4, 2, 0, 3)), [[0, 1, 2, 3], [0, 1, 2, 4], [0, 2, 3, 4], [1, 2, 3, 4]])
        # Bars 1 4 0 3, 1 5 0 3, 2 5 0 3 and 4 2 5 3: word 3 alone is in all of them.
        self.assertEqual(most_staying((1, 4, 2, 5, 0, 3)), [0, 1, 2, 4, 5])
        # Two bars beside one another: each lacks a word.
        self.assertEqual(len(most_staying((1, 3, 0, 2, 6, 4, 7, 5))), 6)

    def test_orders_with_a_bar_of_which_one_list_alone_is_the_greatest(self):
        found = [order for order in small_orders(6) if len(greatest_sets(order)) == 1 and nest_of(order) == "barred"]
        self.assertEqual(len(found), 20)
        for order in found:
            self.assertEqual(most_staying(order), greatest_sets(order)[0])

    def test_all_of_up_to_five_words(self):
        for order in small_orders(5):
            self.assert_told(order, most_by_sets(order))
            self.assert_told(order, most_by_nests(order))

    def test_all_of_six_words(self):
        for order in itertools.permutations(range(6)):
            self.assert_told(order, most_by_sets(order))

    def test_many_of_up_to_12_words(self):
        for order in great_orders():
            self.assert_told(order, most_by_sets(order))

    def test_all_words_where_there_is_a_nest(self):
        for nest in small_nests(6) + [nest for nest in great_nests() if len(seen(nest)) <= 12]:
            order = seen(nest)
            self.assertEqual(most_staying(order), list(range(len(order))))
        for many in range(2, 13):
            for nest in (flat("+", many), flat("-", many), comb(many - 1), left_comb(many - 1, "-")):
                self.assertEqual(most_staying(seen(nest)), list(range(many)))

    def test_13_and_more_words(self):
        chance = random.Random(16)
        for many in list(range(13, 61)):
            refused_as(self, TooMany, most_staying, tuple(range(many)))
            refused_as(self, TooMany, most_staying, tuple(range(many - 1, -1, -1)))
            refused_as(self, TooMany, most_staying, shuffled(chance, many))
            refused_as(self, TooMany, most_staying, (1, 3, 0, 2) + tuple(range(4, many)))

    def test_12_words_are_not_refused(self):
        self.assertEqual(most_staying(tuple(range(12))), list(range(12)))
        self.assert_told((1, 3, 0, 2) + tuple(range(4, 12)), 11)

    def test_each_list_is_a_new_one(self):
        for order in ((0,), (1, 0), (1, 3, 0, 2), (1, 4, 2, 0, 3), tuple(range(12))):
            first = most_staying(order)
            expected = list(first)
            self.assertIsNot(most_staying(order), first)
            first.clear()
            self.assertEqual(most_staying(order), expected)


def greatest_sets(order):
    many = most_by_sets(order)
    return [
        list(words)
        for words in itertools.combinations(range(len(order)), many)
        if nest_of(left_of(order, list(words))) != "barred"
    ]


if __name__ == "__main__":
    unittest.main()
