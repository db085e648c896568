"""Points 1, 3, 4 and 5: orders."""

import copy
import itertools
import unittest

from tests.samples import GREAT, no_whole_numbers, orders_of, refused_as, small_orders
from turnnest.errors import NoOrder, NoWords
from turnnest.orders import back, left_of, make_order, mirror, put_together


class MakeOrderTest(unittest.TestCase):
    def assert_refused(self, numbers):
        refused_as(self, NoOrder, make_order, numbers)

    def test_all_small_orders_come_back_as_tuples(self):
        for order in small_orders(5):
            made = make_order(list(order))
            self.assertIs(type(made), tuple)
            self.assertEqual(made, order)

    def test_every_length_from_1_to_60(self):
        for many in range(1, 61):
            rising = list(range(many))
            mixed = rising[1::2] + rising[::2][::-1]
            for numbers in (rising, rising[::-1], mixed):
                self.assertEqual(make_order(numbers), tuple(numbers))

    def test_no_numbers_at_all(self):
        self.assert_refused([])

    def test_61_and_more(self):
        for many in (61, 62, 100, 400):
            self.assert_refused(list(range(many)))
            self.assert_refused(list(range(many))[::-1])
        self.assert_refused(list(range(60)) + [0])
        self.assert_refused([0] * 400)

    def test_every_small_list_of_numbers_near_the_bounds(self):
        for many in range(1, 5):
            for numbers in itertools.product(range(-2, many + 2), repeat=many):
                if sorted(numbers) == list(range(many)):
                    self.assertEqual(make_order(list(numbers)), numbers)
                else:
                    self.assert_refused(list(numbers))

    def test_one_number_wrong_among_60(self):
        for place in (0, 1, 30, 58, 59):
            for wrong in (-1, 60, 61, -60, 17 if place != 17 else 18, GREAT, -GREAT):
                numbers = list(range(60))
                numbers[place] = wrong
                self.assert_refused(numbers)

    def test_very_great_numbers(self):
        for number in (GREAT, -GREAT, 2 ** 64, -2 ** 63, 2 ** 31):
            self.assert_refused([number])
            self.assert_refused([0, number])
            self.assert_refused([number, 1, 0])

    def test_things_that_are_no_whole_numbers(self):
        for thing in no_whole_numbers():
            self.assert_refused([thing])
            self.assert_refused([thing, 0])
            self.assert_refused([0, thing])
            self.assert_refused([thing, 1])
            self.assert_refused([2, thing, 0])
            self.assert_refused([thing, thing])
            self.assert_refused([thing] * 61)
            self.assert_refused(list(range(59)) + [thing])

    def test_the_list_stays_and_is_not_kept(self):
        numbers = [2, 0, 1]
        made = make_order(numbers)
        self.assertEqual(numbers, [2, 0, 1])
        numbers[0] = 7
        numbers.append(3)
        self.assertEqual(made, (2, 0, 1))
        for refused in ([], [0, 0], [1], [0, True], [0, [1]], list(range(61))):
            before = copy.deepcopy(refused)
            self.assert_refused(refused)
            self.assertEqual(refused, before)


class BackTest(unittest.TestCase):
    def test_by_hand(self):
        self.assertEqual(back((0,)), (0,))
        self.assertEqual(back((1, 0)), (1, 0))
        self.assertEqual(back((1, 2, 0)), (2, 0, 1))
        self.assertEqual(back((2, 0, 1)), (1, 2, 0))
        self.assertEqual(back((3, 0, 2, 1)), (1, 3, 2, 0))

    def test_all_orders_of_up_to_five_words(self):
        for order in small_orders(5):
            told = back(order)
            self.assertIs(type(told), tuple)
            self.assertEqual(told, tuple(order.index(word) for word in range(len(order))))
            self.assertEqual(back(told), order)

    def test_sixty_words(self):
        order = tuple(range(1, 60)) + (0,)
        self.assertEqual(back(order), (59,) + tuple(range(59)))
        self.assertEqual(back(back(order)), order)


class MirrorTest(unittest.TestCase):
    def test_by_hand(self):
        self.assertEqual(mirror((0,)), (0,))
        self.assertEqual(mirror((0, 1)), (1, 0))
        self.assertEqual(mirror((1, 2, 0)), (0, 2, 1))
        self.assertEqual(mirror((3, 0, 2, 1)), (1, 2, 0, 3))

    def test_all_orders_of_up_to_five_words(self):
        for order in small_orders(5):
            told = mirror(order)
            self.assertIs(type(told), tuple)
            self.assertEqual([told[-1 - place] for place in range(len(order))], list(order))
            self.assertEqual(mirror(told), order)

    def test_sixty_words(self):
        self.assertEqual(mirror(tuple(range(60))), tuple(range(59, -1, -1)))


class LeftOfTest(unittest.TestCase):
    def assert_refused(self, order, words):
        refused_as(self, NoWords, left_of, order, words)

    def test_by_hand(self):
        self.assertEqual(left_of((3, 0, 2, 1), [0, 1, 3]), (2, 0, 1))
        self.assertEqual(left_of((3, 0, 2, 1), [2, 3]), (1, 0))
        self.assertEqual(left_of((3, 0, 2, 1), [0, 2]), (0, 1))
        self.assertEqual(left_of((2, 4, 1, 0, 3), [4, 1, 3]), (2, 0, 1))

    def test_all_of_up_to_five_words(self):
        for order in small_orders(5):
            for many in range(1, len(order) + 1):
                for words in itertools.combinations(range(len(order)), many):
                    told = left_of(order, list(words))
                    self.assertIs(type(told), tuple)
                    kept = [word for word in order if word in words]
                    expected = tuple(sum(other < word for other in words) for word in kept)
                    self.assertEqual(told, expected)

    def test_words_in_any_order(self):
        for order in orders_of(4):
            for many in range(1, 5):
                for words in itertools.permutations(range(4), many):
                    self.assertEqual(left_of(order, list(words)), left_of(order, sorted(words)))

    def test_all_words_and_one_word(self):
        for order in small_orders(5):
            self.assertEqual(left_of(order, list(order)), order)
            for word in order:
                self.assertEqual(left_of(order, [word]), (0,))
        order = tuple(range(30, 60)) + tuple(range(30))
        self.assertEqual(left_of(order, list(range(59, -1, -1))), order)
        self.assertEqual(left_of(order, [59]), (0,))
        self.assertEqual(left_of(order, [59, 0, 29, 30]), (2, 3, 0, 1))

    def test_no_words(self):
        for order in small_orders(3):
            self.assert_refused(order, [])

    def test_every_small_list_near_the_bounds(self):
        for many in range(1, 4):
            order = mirror(tuple(range(many)))
            for length in range(0, 4):
                for words in itertools.product(range(-2, many + 2), repeat=length):
                    fine = words and len(set(words)) == length and set(words) <= set(order)
                    if fine:
                        self.assertEqual(left_of(order, list(words)), mirror(tuple(range(length))))
                    else:
                        self.assert_refused(order, list(words))

    def test_told_twice_in_long_lists(self):
        order = tuple(range(60))
        self.assert_refused(order, list(range(60)) + [0])
        self.assert_refused(order, [59, 3, 59])
        self.assert_refused(order, [1] * 400)
        self.assert_refused(order, list(range(400)))

    def test_very_great_numbers(self):
        for number in (GREAT, -GREAT, 2 ** 64, -2 ** 63):
            self.assert_refused((0, 1), [number])
            self.assert_refused((0, 1), [0, number])

    def test_things_that_are_no_whole_numbers(self):
        for thing in no_whole_numbers():
            self.assert_refused((0,), [thing])
            self.assert_refused((1, 0), [thing])
            self.assert_refused((1, 0, 2), [thing, 2])
            self.assert_refused((1, 0, 2), [2, thing])
            self.assert_refused((1, 0, 2), [thing, thing])

    def test_the_list_stays_and_is_not_kept(self):
        words = [3, 0, 2]
        told = left_of((3, 0, 2, 1), words)
        self.assertEqual(words, [3, 0, 2])
        words.clear()
        self.assertEqual(told, (2, 0, 1))
        refused = [2, 1, 2]
        self.assert_refused((0, 1, 2), refused)
        self.assertEqual(refused, [2, 1, 2])


def put_together_by_pairs(order, orders):
    """Each word is known by its own word's number and its number there; these rise as the text does."""
    pairs = [(word, number) for word in order for number in orders[word]]
    return tuple(sorted(pairs).index(pair) for pair in pairs)


class PutTogetherTest(unittest.TestCase):
    def assert_refused(self, order, orders):
        refused_as(self, NoOrder, put_together, order, orders)

    def test_by_hand(self):
        self.assertEqual(put_together((0,), [(0,)]), (0,))
        self.assertEqual(put_together((0,), [(1, 2, 0)]), (1, 2, 0))
        self.assertEqual(put_together((1, 0), [(0, 1), (0,)]), (2, 0, 1))
        self.assertEqual(put_together((1, 0), [(0,), (0, 1)]), (1, 2, 0))
        self.assertEqual(put_together((0, 1), [(1, 0), (1, 0)]), (1, 0, 3, 2))
        self.assertEqual(put_together((2, 0, 1), [(1, 0), (0,), (0, 2, 1)]), (3, 5, 4, 1, 0, 2))
        self.assertEqual(put_together((1, 2, 0), [(0, 1), (1, 0), (0,)]), (3, 2, 4, 0, 1))

    def test_orders_of_one_word_each(self):
        for order in small_orders(5):
            told = put_together(order, [(0,)] * len(order))
            self.assertIs(type(told), tuple)
            self.assertEqual(told, order)
        order = tuple(range(59, -1, -1))
        self.assertEqual(put_together(order, [(0,)] * 60), order)

    def test_all_small_ones(self):
        inner = small_orders(3)
        for order in small_orders(3):
            for orders in itertools.product(inner, repeat=len(order)):
                expected = put_together_by_pairs(order, orders)
                self.assertEqual(put_together(order, list(orders)), expected)

    def test_up_to_just_60_words(self):
        sixty = tuple(range(1, 60)) + (0,)
        self.assertEqual(put_together((0,), [sixty]), sixty)
        thirty = tuple(range(30))
        self.assertEqual(put_together((1, 0), [thirty, thirty]), tuple(range(30, 60)) + thirty)
        ten = mirror(tuple(range(10)))
        order = (3, 5, 0, 4, 1, 2)
        self.assertEqual(put_together(order, [ten] * 6), put_together_by_pairs(order, [ten] * 6))

    def test_61_words_and_more(self):
        thirty = tuple(range(30))
        self.assert_refused((1, 0), [thirty, tuple(range(31))])
        self.assert_refused((1, 0), [tuple(range(60)), (0,)])
        self.assert_refused((0, 1), [(0,), tuple(range(60))])
        self.assert_refused(tuple(range(60)), [(0,)] * 59 + [(1, 0)])
        self.assert_refused(tuple(range(60)), [tuple(range(60))] * 60)

    def test_fewer_and_more_orders_than_words(self):
        for order in small_orders(4):
            for many in range(0, 7):
                if many != len(order):
                    self.assert_refused(order, [(0,)] * many)
        self.assert_refused((0,), [])
        self.assert_refused((0,), [(0,)] * 400)
        self.assert_refused(tuple(range(60)), [(0,)] * 59)
        self.assert_refused(tuple(range(60)), [(0,)] * 61)

    def test_the_list_stays_and_is_not_kept(self):
        orders = [(1, 0), (0,)]
        told = put_together((1, 0), orders)
        self.assertEqual(orders, [(1, 0), (0,)])
        orders.reverse()
        self.assertEqual(told, (2, 1, 0))
        self.assert_refused((0, 1, 2), orders)
        self.assertEqual(orders, [(0,), (1, 0)])


if __name__ == "__main__":
    unittest.main()
