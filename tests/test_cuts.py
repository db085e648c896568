"""Points 1 and 9: cuts, and the nest of an order."""

import random
import unittest

from tests.samples import flat, great_nests, nests_of, orders_of, small_nests, small_orders
from turnnest.cuts import cuts, nest_of
from turnnest.nestnotes import read_nest, show_nest
from turnnest.nests import is_nest, seen
from turnnest.orders import mirror, put_together


def cuts_by_words(order):
    """The document's own words: all words ahead less, or greater, than all from there on."""
    places = range(1, len(order))
    rising = [place for place in places if all(a < b for a in order[:place] for b in order[place:])]
    falling = [place for place in places if all(a > b for a in order[:place] for b in order[place:])]
    assert not (rising and falling)
    if rising:
        return ("+", tuple(rising))
    if falling:
        return ("-", tuple(falling))
    return ("", ())


class CutsTest(unittest.TestCase):
    def assert_cuts(self, order, expected):
        told = cuts(order)
        self.assertIs(type(told), tuple)
        self.assertIs(type(told[1]), tuple)
        self.assertEqual(told, expected)

    def test_by_hand(self):
        for order, expected in (
            ((0, 1), ("+", (1,))),
            ((1, 0), ("-", (1,))),
            ((0, 1, 2), ("+", (1, 2))),
            ((2, 1, 0), ("-", (1, 2))),
            ((0, 2, 1), ("+", (1,))),
            ((1, 0, 2), ("+", (2,))),
            ((1, 2, 0), ("-", (2,))),
            ((2, 0, 1), ("-", (1,))),
            ((0, 2, 1, 3), ("+", (1, 3))),
            ((3, 1, 2, 0), ("-", (1, 3))),
            ((2, 3, 0, 1), ("-", (2,))),
            ((1, 0, 3, 2), ("+", (2,))),
            ((0, 2, 4, 1, 3, 5), ("+", (1, 5))),
            ((5, 2, 4, 1, 3, 0), ("-", (1, 5))),
        ):
            self.assert_cuts(order, expected)

    def test_none_of_either_kind(self):
        for order in ((0,), (1, 3, 0, 2), (2, 0, 3, 1), (1, 4, 2, 0, 3), (2, 5, 3, 0, 4, 1)):
            self.assert_cuts(order, ("", ()))

    def test_all_orders_of_up_to_five_words(self):
        for order in small_orders(5):
            self.assert_cuts(order, cuts_by_words(order))

    def test_sixty_words(self):
        rising = tuple(range(60))
        self.assert_cuts(rising, ("+", tuple(range(1, 60))))
        self.assert_cuts(mirror(rising), ("-", tuple(range(1, 60))))
        self.assert_cuts(rising[1:] + rising[:1], ("-", (59,)))
        self.assert_cuts(rising[-1:] + rising[:-1], ("-", (1,)))
        self.assert_cuts(rising[30:] + rising[:30], ("-", (30,)))
        self.assert_cuts(mirror(rising[:30]) + mirror(rising[30:]), ("+", (30,)))
        self.assert_cuts(rising[:1] + mirror(rising[1:59]) + rising[59:], ("+", (1, 59)))
        self.assert_cuts(put_together((1, 3, 0, 2), [rising[:15]] * 4), ("", ()))
        tens = mirror(rising[:10])
        self.assert_cuts(put_together(rising[:6], [tens] * 6), ("+", (10, 20, 30, 40, 50)))

    def test_orders_of_sixty_words_by_the_documents_words(self):
        chance = random.Random(9)
        for nest in great_nests():
            self.assert_cuts(seen(nest), cuts_by_words(seen(nest)))
        for _ in range(50):
            order = tuple(chance.sample(range(60), 60))
            self.assert_cuts(order, cuts_by_words(order))

    def test_the_mirrored_order_has_them_from_the_other_side_with_the_other_kind(self):
        kinds = {"+": "-", "-": "+", "": ""}
        for order in small_orders(6) + [seen(nest) for nest in great_nests()]:
            kind, places = cuts(order)
            turned = tuple(sorted(len(order) - place for place in places))
            self.assert_cuts(mirror(order), (kinds[kind], turned))

    def test_asked_twice_it_is_told_alike(self):
        for order in small_orders(4):
            before = tuple(order)
            self.assertEqual(cuts(order), cuts(order))
            self.assertEqual(nest_of(order), nest_of(order))
            self.assertEqual(order, before)


class NestOfTest(unittest.TestCase):
    def test_by_hand(self):
        for order, note in (
            ((0,), "."),
            ((0, 1), "(+..)"),
            ((1, 0), "(-..)"),
            ((0, 1, 2), "(+...)"),
            ((2, 1, 0), "(-...)"),
            ((0, 2, 1), "(+.(-..))"),
            ((1, 0, 2), "(+(-..).)"),
            ((1, 2, 0), "(-.(+..))"),
            ((2, 0, 1), "(-(+..).)"),
            ((0, 2, 1, 3), "(+.(-..).)"),
            ((2, 3, 4, 0, 1), "(-(+..)(+...))"),
            ((1, 3, 2, 0, 4), "(+(-.(+.(-..))).)"),
        ):
            self.assertEqual(nest_of(order), read_nest(note))
            self.assertEqual(show_nest(read_nest(note)), note)

    def test_the_nest_of_what_a_nest_is_seen_as(self):
        for nest in small_nests(6) + great_nests():
            told = nest_of(seen(nest))
            self.assertIs(is_nest(told), True)
            self.assertEqual(told, nest)

    def test_each_order_of_up_to_six_words(self):
        for many in range(1, 7):
            nests = {seen(nest): nest for nest in nests_of(many)}
            for order in orders_of(many):
                self.assertEqual(nest_of(order), nests.get(order, "barred"))

    def test_barred(self):
        for order in ((1, 3, 0, 2), (2, 0, 3, 1), (0, 2, 4, 1, 3), (3, 1, 4, 2, 0), (1, 4, 2, 0, 3)):
            self.assertEqual(nest_of(order), "barred")

    def test_barred_deep_within(self):
        for bar in ((1, 3, 0, 2), (2, 0, 3, 1)):
            order = bar
            for level in range(56):
                order = put_together((0, 1) if level % 2 else (1, 0), [(0,), order])
            self.assertEqual(len(order), 60)
            self.assertEqual(nest_of(order), "barred")
            for place in range(57):
                inner = [(0,)] * 57
                inner[place] = bar
                for outer in (flat("+", 57), flat("-", 57)):
                    self.assertEqual(nest_of(put_together(seen(outer), inner)), "barred")


if __name__ == "__main__":
    unittest.main()
