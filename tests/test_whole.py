"""Points 1 and 2 over the whole program: for every order its only nest or a bar is told, and all parts agree."""

import itertools
import random
import unittest

from tests.samples import GREAT, great_nests, nests_of, orders_of, refused_as
from turnnest import errors
from turnnest.bars import bar_of, is_bar
from turnnest.cuts import cuts, nest_of
from turnnest.desk import Desk
from turnnest.joined import back_nest, joined_nest, left_nest, mirror_nest
from turnnest.marks import seen_words, write
from turnnest.nestnotes import read_nest, show_nest
from turnnest.nests import depth, is_nest, seen, words_of
from turnnest.numbers import how_many, nest_at, number_of
from turnnest.orders import back, left_of, make_order, mirror, put_together
from turnnest.staying import most_staying
from turnnest.turns import are_nested, deepest, done, turns_of


def great_orders():
    """Many orders of 7 to 60 words: those of nests, such ones with few words moved, and any."""
    chance = random.Random(22)
    orders = [seen(nest) for nest in great_nests()]
    for order in list(orders):
        moved = list(order)
        one, two = chance.sample(range(len(order)), 2)
        moved[one], moved[two] = moved[two], moved[one]
        orders.append(tuple(moved))
    for many in range(7, 61):
        orders.append(tuple(chance.sample(range(many), many)))
        # a bar far inside what would have a nest otherwise
        far = chance.randint(0, many - 4)
        for bar in ((1, 3, 0, 2), (2, 0, 3, 1)):
            inner = tuple(range(far)) + tuple(far + word for word in bar) + tuple(range(far + 4, many))
            orders.extend([inner, inner[::-1]])
    return orders


class WholeTest(unittest.TestCase):
    def assert_nest(self, order, nest):
        many = len(order)
        self.assertIs(is_nest(nest), True)
        self.assertEqual(words_of(nest), many)
        self.assertEqual(seen(nest), order)
        self.assertEqual(read_nest(show_nest(nest)), nest)
        self.assertEqual(nest_at(many, number_of(nest)), nest)
        turns = turns_of(nest)
        self.assertIs(are_nested(turns), True)
        self.assertEqual(done(many, turns), order)
        self.assertEqual(deepest(turns), depth(nest) - (nest is not None and nest[0] == "+"))
        words = [f"w{number}" for number in range(many)]
        text = write(words, nest)
        self.assertEqual(seen_words(text), [words[number] for number in order])
        self.assertEqual(text.split(" ").count("<"), len(turns))
        self.assertEqual(text.split(" ").count(">"), len(turns))

    def assert_one_of_both(self, order):
        nest, bar = nest_of(order), bar_of(order)
        if nest == "barred":
            self.assertIs(is_bar(order, bar), True)
        else:
            self.assertIsNone(bar)
            self.assert_nest(order, nest)
        return nest != "barred"

    def test_all_orders_of_up_to_six_words(self):
        for many in range(1, 7):
            with_nests = [order for order in orders_of(many) if self.assert_one_of_both(order)]
            self.assertEqual(len(with_nests), how_many(many))
            # Each nest is seen as another order: none has two.
            self.assertEqual(sorted(map(seen, nests_of(many))), with_nests)

    def test_many_orders_of_up_to_60_words(self):
        told = [self.assert_one_of_both(order) for order in great_orders()]
        self.assertGreater(told.count(True), 200)
        self.assertGreater(told.count(False), 200)

    def test_the_desk_tells_one_of_both(self):
        desk = Desk()
        for order in orders_of(5) + great_orders()[::7]:
            words = [f"w{number}" for number in range(len(order))]
            desk.say("text " + " ".join(words))
            desk.say("order " + " ".join(map(str, order)))
            nest = nest_of(order)
            if nest == "barred":
                places = " ".join(map(str, bar_of(order)))
                self.assertEqual(desk.say("nest"), "barred " + places)
                for question in ("marks", "turns", "number"):
                    self.assertEqual(desk.say(question), "barred")
            else:
                self.assertEqual(read_nest(desk.say("nest")), nest)
                self.assertEqual(seen_words(desk.say("marks")), desk.say("seen").split(" "))
                self.assertEqual(desk.say("turns"), str(len(turns_of(nest))))
                self.assertEqual(nest_at(len(order), int(desk.say("number"))), nest)

    def test_what_comes_of_an_order_with_a_nest_has_one(self):
        for nest in nests_of(5) + great_nests()[::5]:
            order = seen(nest)
            self.assertEqual(nest_of(back(order)), back_nest(nest))
            self.assertEqual(nest_of(mirror(order)), mirror_nest(nest))
            words = list(range(0, len(order), 2))
            self.assertEqual(nest_of(left_of(order, words)), left_nest(nest, words))
            if len(order) <= 12:
                self.assertEqual(most_staying(order), list(range(len(order))))


class ListsTest(unittest.TestCase):
    """Point 1: lists that are handed in stay, lists that are told are the asker's own."""

    def test_lists_handed_in_stay(self):
        nest = read_nest("(-(+..).)")
        for asked, ahead, handed, behind in (
            (make_order, (), [2, 0, 1], ()),
            (left_of, ((2, 0, 1),), [2, 0], ()),
            (put_together, ((1, 0),), [(0,), (1, 0)], ()),
            (are_nested, (), [(0, 3), (0, 2)], ()),
            (deepest, (), [(0, 3), (0, 2)], ()),
            (done, (3,), [(0, 3), (0, 2)], ()),
            (left_nest, (nest,), [2, 0], ()),
            (joined_nest, (nest,), [None, nest, None], ()),
            (write, (), ["c", "a", "b"], (nest,)),
        ):
            before = list(handed)
            told = asked(*ahead, handed, *behind)
            self.assertEqual(handed, before)
            handed.clear()
            self.assertEqual(asked(*ahead, before, *behind), told)

    def test_lists_told_are_no_two_one(self):
        for asked, handed in (
            (turns_of, read_nest("(-(+..).)")),
            (turns_of, None),
            (most_staying, (0,)),
            (most_staying, (1, 3, 0, 2)),
            (most_staying, (2, 1, 0)),
            (seen_words, "a"),
            (seen_words, "< a b >"),
        ):
            told = [asked(handed) for _ in range(3)]
            expected = list(told[0])
            for one, two in itertools.combinations(told, 2):
                self.assertIsNot(one, two)
            told[0].append("more")
            told[1].clear()
            self.assertEqual(told[2], expected)
            self.assertEqual(asked(handed), expected)

    def test_the_same_is_told_again(self):
        for order in ((1, 4, 2, 0, 3), (1, 3, 0, 2), tuple(range(11, -1, -1)), (5, 7, 0, 8, 3, 9, 1, 10, 4, 11, 6, 2)):
            for asked in (most_staying, bar_of, nest_of, cuts):
                self.assertEqual(asked(order), asked(order))


class RefusalsTest(unittest.TestCase):
    def test_each_refusal_of_the_interface(self):
        pair = read_nest("(+..)")
        desk = Desk()
        desk.say("text " + " ".join("a" * 13))
        for refusal, asked, handed in (
            (errors.NoOrder, make_order, ([1],)),
            (errors.NoOrder, put_together, ((0,), [])),
            (errors.NoOrder, joined_nest, (pair, [None])),
            (errors.NoOrder, desk.say, ("order 0",)),
            (errors.NoWords, left_of, ((0,), [])),
            (errors.NoWords, left_nest, (pair, [2])),
            (errors.NoWords, desk.say, ("drop 13",)),
            (errors.NoNest, read_nest, ("(+.)",)),
            (errors.NoNest, joined_nest, (pair, [None, "."])),
            (errors.NoNest, write, (["A"], ())),
            (errors.NoTurn, done, (2, [(0, 3)])),
            (errors.NoNumber, nest_at, (1, 1)),
            (errors.NoNumber, nest_at, (60, GREAT)),
            (errors.NoNumber, desk.say, ("take -1",)),
            (errors.NoNumber, desk.say, ("take " + "9" * 60,)),
            (errors.TooMany, most_staying, (tuple(range(13)),)),
            (errors.TooMany, desk.say, ("stay",)),
            (errors.NoText, seen_words, ("< a >",)),
            (errors.NoText, write, (["a"], pair)),
            (errors.NoText, desk.say, ("text A",)),
            (errors.NoRow, desk.say, ("",)),
            (errors.NoRow, Desk().say, ("seen",)),
        ):
            refused_as(self, refusal, asked, *handed)


if __name__ == "__main__":
    unittest.main()
