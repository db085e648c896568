"""Points 2 and 10: bars, and that an order has either its only nest or a bar."""

import itertools
import random
import unittest

from tests.samples import GREAT, great_nests, orders_of, small_orders
from turnnest.bars import bar_of, is_bar
from turnnest.cuts import nest_of
from turnnest.nests import is_nest, seen
from turnnest.orders import mirror, put_together

FORMS = ((1, 3, 0, 2), (2, 0, 3, 1))


def is_bar_by_words(order, places):
    """The document's own words: rising places, seen as b d a c or as c a d b."""
    inside = all(place in range(len(order)) for place in places)
    if not inside or list(places) != sorted(set(places)):
        return False
    words = [order[place] for place in places]
    a, b, c, d = sorted(words)
    return words in ([b, d, a, c], [c, a, d, b])


def orders_with_a_bar_put_in():
    """Orders of 60 words, with a bar put in the stead of one word of 57."""
    chance = random.Random(10)
    bases = [tuple(range(57)), tuple(range(56, -1, -1))]
    bases.append(seen_of_57(chance))
    for base in bases:
        for place in range(57):
            for form in FORMS:
                inner = [(0,)] * 57
                inner[place] = form
                yield put_together(base, inner)


def seen_of_57(chance):
    order = (0,)
    while len(order) < 57:
        inner = [(0,)] * len(order)
        inner[chance.randrange(len(order))] = chance.choice([(0, 1), (1, 0)])
        order = put_together(order, inner)
    return order


class BarOfTest(unittest.TestCase):
    def assert_has_bar(self, order):
        places = bar_of(order)
        self.assertIs(type(places), tuple)
        self.assertEqual([type(place) for place in places], [int] * 4)
        self.assertTrue(is_bar_by_words(order, places), (order, places))
        self.assertIs(is_bar(order, places), True)
        self.assertEqual(nest_of(order), "barred")

    def assert_has_none(self, order):
        self.assertIsNone(bar_of(order))
        nest = nest_of(order)
        self.assertIs(is_nest(nest), True)
        self.assertEqual(seen(nest), order)

    def test_by_hand(self):
        self.assertEqual(bar_of((1, 3, 0, 2)), (0, 1, 2, 3))
        self.assertEqual(bar_of((2, 0, 3, 1)), (0, 1, 2, 3))
        self.assertEqual(bar_of((0, 2, 4, 1, 3)), (1, 2, 3, 4))
        self.assertEqual(bar_of((3, 1, 4, 2, 0)), (0, 1, 2, 3))
        self.assertEqual(bar_of((1, 4, 2, 0, 3)), (0, 1, 3, 4))
        self.assertEqual(bar_of((3, 0, 2, 4, 1)), (0, 1, 3, 4))
        for order in ((0,), (0, 1), (1, 0), (1, 2, 0), (3, 0, 2, 1), (1, 3, 2, 0), (0, 1, 2, 3)):
            self.assertIsNone(bar_of(order))

    def test_just_one_of_two_for_all_orders_of_up_to_six_words(self):
        for many, expected in enumerate((1, 2, 6, 22, 90, 394), start=1):
            with_nest = 0
            for order in orders_of(many):
                if any(is_bar_by_words(order, four) for four in itertools.combinations(range(many), 4)):
                    self.assert_has_bar(order)
                else:
                    self.assert_has_none(order)
                    with_nest += 1
            self.assertEqual(with_nest, expected)

    def test_great_orders_with_a_nest(self):
        for nest in great_nests():
            self.assert_has_none(seen(nest))

    def test_a_bar_put_in_at_any_place_of_sixty_words(self):
        for order in orders_with_a_bar_put_in():
            self.assertEqual(len(order), 60)
            self.assert_has_bar(order)
            self.assert_has_bar(mirror(order))

    def test_a_bar_far_apart(self):
        for form in FORMS:
            for sizes in ((15, 15, 15, 15), (57, 1, 1, 1), (1, 57, 1, 1), (1, 1, 57, 1), (1, 1, 1, 57)):
                for inner in (tuple, mirror):
                    self.assert_has_bar(put_together(form, [inner(range(size)) for size in sizes]))
        for long_form in ((1, 4, 2, 0, 3), (3, 0, 2, 4, 1)):
            self.assert_has_bar(put_together(long_form, [tuple(range(12))] * 5))

    def test_only_one_bar_of_each_form_among_many_words(self):
        rising = tuple(range(60))
        for form in FORMS:
            order = rising[:28] + tuple(28 + word for word in form) + rising[32:]
            self.assertEqual(bar_of(order), (28, 29, 30, 31))
            self.assertEqual(bar_of(mirror(order)), (28, 29, 30, 31))

    def test_mixed_orders_of_sixty_words(self):
        chance = random.Random(60)
        for _ in range(50):
            self.assert_has_bar(tuple(chance.sample(range(60), 60)))


class IsBarTest(unittest.TestCase):
    def test_by_hand(self):
        self.assertIs(is_bar((1, 3, 0, 2), (0, 1, 2, 3)), True)
        self.assertIs(is_bar((2, 0, 3, 1), (0, 1, 2, 3)), True)
        self.assertIs(is_bar((1, 4, 2, 0, 3), (0, 1, 3, 4)), True)
        self.assertIs(is_bar((1, 4, 2, 0, 3), (0, 1, 2, 4)), False)
        self.assertIs(is_bar((0, 1, 2, 3), (0, 1, 2, 3)), False)

    def test_not_rising(self):
        for order in FORMS:
            for places in itertools.permutations(range(4)):
                self.assertIs(is_bar(order, places), places == (0, 1, 2, 3))

    def test_any_four_numbers_near_the_bounds(self):
        for order in orders_of(4) + [(1, 4, 2, 0, 3), (0, 2, 4, 1, 3), (0, 1), (0,)]:
            for places in itertools.product(range(-2, len(order) + 2), repeat=4):
                self.assertIs(is_bar(order, places), is_bar_by_words(order, places))

    def test_all_fours_of_all_orders_of_up_to_six_words(self):
        for order in small_orders(6):
            for places in itertools.combinations(range(len(order)), 4):
                self.assertIs(is_bar(order, places), is_bar_by_words(order, places))

    def test_alike_below_and_beyond(self):
        order = (1, 3, 0, 2)
        for places in (
            (0, 0, 0, 0), (0, 1, 2, 2), (0, 0, 2, 3), (0, 1, 1, 3), (-4, -3, -2, -1), (-1, 1, 2, 3), (-4, 1, 2, 3),
            (0, 1, 2, 4), (4, 5, 6, 7), (0, 1, 2, -1), (60, 61, 62, 63),
        ):
            self.assertIs(is_bar(order, places), False)

    def test_very_great_numbers(self):
        order = (1, 3, 0, 2)
        for great in (GREAT, -GREAT, 2 ** 64, -2 ** 63):
            for place in range(4):
                places = list(range(4))
                places[place] = great
                self.assertIs(is_bar(order, tuple(places)), False)
            self.assertIs(is_bar(order, (great, great + 1, great + 2, great + 3)), False)
            self.assertIs(is_bar((0,), (great,) * 4), False)

    def test_sixty_words(self):
        chance = random.Random(4)
        for order in itertools.islice(orders_with_a_bar_put_in(), 0, None, 7):
            for _ in range(200):
                places = tuple(sorted(chance.sample(range(60), 4)))
                self.assertIs(is_bar(order, places), is_bar_by_words(order, places))


if __name__ == "__main__":
    unittest.main()
