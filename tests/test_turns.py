"""Points 1, 2, 11 and 12: turns, nested or not, and the turns of a nest."""

import itertools
import random
import unittest

from tests.samples import (
    GREAT, Pleaser, Prickly, comb, flat, great_nests, no_nests, no_whole_numbers, orders_of, refused_as, small_nests,
)
from turnnest.bars import bar_of
from turnnest.cuts import nest_of
from turnnest.errors import NoNest, NoTurn
from turnnest.nestnotes import read_nest
from turnnest.nests import depth, seen
from turnnest.turns import are_nested, deepest, done, turns_of


def turns_of_row(many):
    return [(first, behind) for first in range(many) for behind in range(first + 2, many + 1)]


def nested_by_places(turns):
    """The document's words, told by the places that the turns lie over."""
    stretches = [set(range(*turn)) for turn in turns]
    return all(not (one & two) or two <= one for one, two in itertools.combinations(stretches, 2))


def depth_by_places(turns):
    return max((sum(place in range(*turn) for turn in turns) for place in range(61)), default=0)


def done_by_swaps(many, turns):
    row = list(range(many))
    for first, behind in turns:
        last = behind - 1
        while first < last:
            row[first], row[last] = row[last], row[first]
            first, last = first + 1, last - 1
    return tuple(row)


def no_turns(many):
    """Things that are no turns of a row of so many words."""
    wrong = [
        (0, 0), (0, 1), (1, 1), (1, 2), (many - 1, many), (many, many), (-1, 1), (-1, many), (-2, 0), (-many, 0),
        (0, many + 1), (many - 1, many + 1), (many, many + 2), (0, 61), (2, 0), (many, 0), (many, many - 2),
        (0, -1), (0, -2), (-2, -4), (0, GREAT), (GREAT, GREAT + 2), (-GREAT, 2), (-GREAT, GREAT), (GREAT, 0),
        (), (0,), (2,), (0, 2, 2), (0, 2, 4), (0, 1, 2), ((0, 2),), (0, (2,)), ((0, 2), (0, 2)),
        [0, 2], [], [(0, 2)], {0: 2}, {0, 2}, frozenset((0, 2)), range(0, 2), "02", "0 2", b"02", 0, 2, 0.5,
        (False, 2), (False, True), (0, True), (True, 3), ("0", "2"), ("", ""), (None, None), (0, None), (None, 2),
        (0.0, 2), (0, 2.0), (0, float("inf")), (0, float("nan")), ([0], [2]), (0, [2]), ([], 2), ({}, 2),
    ]
    for thing in no_whole_numbers():
        wrong.extend([thing, (thing, 2), (0, thing), (thing, thing)])
    return wrong + [Prickly(), Pleaser()]


class AreNestedTest(unittest.TestCase):
    def test_by_hand(self):
        for turns, expected in (
            ([], True),
            ([(0, 2)], True),
            # apart, in whichever order
            ([(0, 2), (2, 4)], True),
            ([(2, 4), (0, 2)], True),
            ([(0, 2), (5, 9)], True),
            ([(5, 9), (0, 2), (2, 5)], True),
            # one within another, the greater one ahead
            ([(0, 4), (1, 3)], True),
            ([(0, 4), (0, 3)], True),
            ([(0, 4), (1, 4)], True),
            ([(0, 4), (2, 4), (0, 2)], True),
            ([(0, 9), (1, 8), (2, 7)], True),
            # the greater one behind
            ([(1, 3), (0, 4)], False),
            ([(0, 3), (0, 4)], False),
            ([(1, 4), (0, 4)], False),
            ([(0, 9), (2, 7), (1, 8)], False),
            ([(2, 4), (5, 7), (0, 4)], False),
            # two alike
            ([(0, 2), (0, 2)], True),
            ([(1, 5), (1, 5), (1, 5)], True),
            ([(0, 4), (1, 3), (1, 3)], True),
            ([(0, 4), (1, 3), (0, 4)], False),
            # crossing
            ([(0, 2), (1, 3)], False),
            ([(1, 3), (0, 2)], False),
            ([(0, 3), (1, 4)], False),
            ([(0, 5), (0, 3), (2, 5)], False),
            ([(0, 60), (0, 59), (1, 60)], False),
        ):
            self.assertIs(are_nested(turns), expected, turns)

    def test_all_lists_of_up_to_three_turns_of_five_words(self):
        for many in range(4):
            for turns in itertools.product(turns_of_row(5), repeat=many):
                self.assertIs(are_nested(list(turns)), nested_by_places(turns), turns)

    def test_long_lists(self):
        whole = [(0, 60)] * 400
        self.assertIs(are_nested(whole), True)
        self.assertIs(are_nested(whole[1:] + [(1, 60)]), True)
        self.assertIs(are_nested([(1, 60)] + whole[1:]), False)
        pairs = [(place, place + 2) for place in range(0, 60, 2)]
        self.assertIs(are_nested([(0, 60)] + pairs[::-1]), True)
        self.assertIs(are_nested(pairs + [(57, 59)]), False)
        self.assertIs(are_nested([(0, behind) for behind in range(60, 1, -1)]), True)
        self.assertIs(are_nested([(0, behind) for behind in range(2, 61)]), False)

    def test_the_list_stays(self):
        for turns in ([], [(0, 4), (1, 3)], [(1, 3), (0, 4)], [(0, 2), (1, 3)]):
            before = list(turns)
            are_nested(turns)
            self.assertEqual(turns, before)


class DeepestTest(unittest.TestCase):
    def test_by_hand(self):
        for turns, expected in (
            ([], 0),
            ([(0, 2)], 1),
            ([(58, 60)], 1),
            ([(0, 2), (2, 4)], 1),
            ([(2, 4), (0, 2)], 1),
            ([(0, 4), (1, 3)], 2),
            ([(0, 4), (0, 2), (2, 4)], 2),
            ([(0, 9), (0, 4), (5, 9), (6, 8)], 3),
            ([(0, 9), (1, 4), (5, 9), (2, 4)], 3),
            ([(3, 5), (3, 5)], 2),
            ([(0, 4), (1, 3), (1, 3)], 3),
        ):
            self.assertEqual(deepest(turns), expected, turns)
            self.assertIs(type(deepest(turns)), int)

    def test_all_nested_lists_of_up_to_three_turns_of_six_words(self):
        for many in range(4):
            for turns in itertools.product(turns_of_row(6), repeat=many):
                if nested_by_places(turns):
                    self.assertEqual(deepest(list(turns)), depth_by_places(turns), turns)

    def test_long_lists(self):
        self.assertEqual(deepest([(0, 60)] * 400), 400)
        self.assertEqual(deepest([(place, 60) for place in range(59)]), 59)
        self.assertEqual(deepest([(0, behind) for behind in range(60, 1, -1)]), 59)
        self.assertEqual(deepest([(place, place + 2) for place in range(0, 60, 2)]), 1)

    def test_the_list_stays(self):
        turns = [(0, 4), (2, 4), (0, 2)]
        self.assertEqual(deepest(turns), 2)
        self.assertEqual(turns, [(0, 4), (2, 4), (0, 2)])


class DoneTest(unittest.TestCase):
    def test_by_hand(self):
        for many, turns, expected in (
            (1, [], (0,)),
            (3, [], (0, 1, 2)),
            (2, [(0, 2)], (1, 0)),
            (2, [(0, 2), (0, 2)], (0, 1)),
            (4, [(1, 3)], (0, 2, 1, 3)),
            (5, [(0, 5)], (4, 3, 2, 1, 0)),
            (5, [(0, 5), (0, 3)], (2, 3, 4, 1, 0)),
            (5, [(0, 3), (0, 5)], (4, 3, 0, 1, 2)),
            (5, [(0, 5), (0, 3), (3, 5)], (2, 3, 4, 0, 1)),
            # crossing
            (4, [(0, 3), (1, 4)], (2, 3, 0, 1)),
            (4, [(1, 4), (0, 3)], (2, 3, 0, 1)),
            (3, [(0, 2), (1, 3)], (1, 2, 0)),
            (3, [(1, 3), (0, 2)], (2, 0, 1)),
            (4, [(0, 2), (1, 3), (2, 4), (0, 2)], (2, 1, 3, 0)),
        ):
            self.assertEqual(done(many, turns), expected, turns)
            self.assertIs(type(done(many, turns)), tuple)

    def test_no_turns_of_1_to_60_words(self):
        for many in range(1, 61):
            self.assertEqual(done(many, []), tuple(range(many)))

    def test_all_lists_of_up_to_three_turns_of_up_to_five_words(self):
        for many in range(1, 6):
            for length in range(4):
                for turns in itertools.product(turns_of_row(many), repeat=length):
                    self.assertEqual(done(many, list(turns)), done_by_swaps(many, turns))

    def test_long_lists_of_mixed_turns(self):
        chance = random.Random(11)
        for many in range(2, 61):
            turns = chance.choices(turns_of_row(many), k=chance.choice((1, 20, 400)))
            self.assertEqual(done(many, turns), done_by_swaps(many, turns))

    def test_the_greatest_turns(self):
        for many in range(2, 61):
            self.assertEqual(done(many, [(0, many)]), tuple(range(many - 1, -1, -1)))
            expected = tuple(range(many - 2)) + (many - 1, many - 2)
            self.assertEqual(done(many, [(many - 2, many)]), expected)

    def test_things_that_are_no_turns(self):
        for many in (1, 2, 3, 4, 60):
            fine = turns_of_row(many)[-1:]
            for thing in no_turns(many):
                refused_as(self, NoTurn, done, many, [thing])
                refused_as(self, NoTurn, done, many, fine + [thing])
                refused_as(self, NoTurn, done, many, [thing] + fine)

    def test_every_pair_of_numbers_near_the_bounds(self):
        for many in range(1, 6):
            for pair in itertools.product(range(-3, many + 4), repeat=2):
                if pair in turns_of_row(many):
                    self.assertEqual(done(many, [pair]), done_by_swaps(many, [pair]))
                else:
                    refused_as(self, NoTurn, done, many, [pair])

    def test_one_wrong_thing_in_a_long_list(self):
        for place in (0, 1, 200, 398, 399):
            turns = [(0, 60)] * 400
            turns[place] = (0, 61)
            refused_as(self, NoTurn, done, 60, turns)

    def test_the_list_stays_and_is_not_kept(self):
        turns = [(0, 4), (1, 3)]
        told = done(4, turns)
        self.assertEqual(turns, [(0, 4), (1, 3)])
        turns.clear()
        self.assertEqual(told, (3, 1, 2, 0))
        refused = [(0, 2), (3, 3), [0, 2]]
        refused_as(self, NoTurn, done, 4, refused)
        self.assertEqual(refused, [(0, 2), (3, 3), [0, 2]])


def turns_by_words(nest):
    """The document's words: where each knot's words are seen; only then put in order."""
    places = {word: place for place, word in enumerate(seen(nest))}
    turns = []

    def walk(knot, first_word):
        if knot is None:
            return first_word + 1
        behind = first_word
        for part in knot[1]:
            behind = walk(part, behind)
        taken = [places[word] for word in range(first_word, behind)]
        if (knot, first_word, behind) != (nest, 0, len(places)) or knot[0] == "-":
            turns.append((min(taken), max(taken) + 1))
        return behind

    walk(nest, 0)
    return sorted(turns, key=lambda turn: (turn[0], -turn[1]))


class TurnsOfTest(unittest.TestCase):
    def test_by_hand(self):
        for note, expected in (
            (".", []),
            ("(+..)", []),
            ("(-..)", [(0, 2)]),
            ("(+...)", []),
            ("(-...)", [(0, 3)]),
            ("(+.(-..).)", [(1, 3)]),
            ("(+(-..)(-...))", [(0, 2), (2, 5)]),
            ("(-(+..).)", [(0, 3), (1, 3)]),
            ("(-.(+..))", [(0, 3), (0, 2)]),
            ("(-(+..)(+...))", [(0, 5), (0, 3), (3, 5)]),
            ("(-(+...).(+..))", [(0, 6), (0, 2), (3, 6)]),
            ("(+(-.(+.(-..))).)", [(0, 4), (0, 3), (1, 3)]),
            ("(-(+(-..).)(+.(-..)))", [(0, 6), (0, 3), (1, 3), (3, 6), (3, 5)]),
        ):
            told = turns_of(read_nest(note))
            self.assertIs(type(told), list)
            self.assertEqual(told, expected, note)
            self.assertEqual([type(turn) for turn in told], [tuple] * len(told))

    def test_all_small_and_many_great_nests(self):
        for nest in small_nests(6) + great_nests():
            turns = turns_of(nest)
            order = seen(nest)
            self.assertEqual(turns, turns_by_words(nest))
            self.assertEqual(done(len(order), turns), order)
            self.assertIs(are_nested(turns), True)
            self.assertEqual(deepest(turns), depth(nest) - (nest is not None and nest[0] == "+"))

    def test_sixty_words(self):
        self.assertEqual(turns_of(flat("+", 60)), [])
        self.assertEqual(turns_of(flat("-", 60)), [(0, 60)])
        self.assertEqual(len(turns_of(comb(59))), 58)
        self.assertEqual(len(turns_of(comb(58))), 58)

    def test_each_list_is_a_new_one(self):
        for nest in (None, flat("+", 3), flat("-", 3), comb(5)):
            first = turns_of(nest)
            expected = list(first)
            first.append((0, 2))
            first.reverse()
            self.assertEqual(turns_of(nest), expected)
            self.assertIsNot(turns_of(nest), turns_of(nest))

    def test_what_is_no_nest(self):
        for thing in no_nests() + ["barred"]:
            refused_as(self, NoNest, turns_of, thing)


def joined(ahead, behind):
    return ahead + tuple(len(ahead) + word for word in behind)


def led_to(most_words, most):
    """Orders by [words][cost] to which nested turns lead that are just so many turns.

    What begins with a turn of the whole row is what is done within it, with the words counted from the other end.
    """
    led = [[set() for _ in range(most + 1)] for _ in range(most_words + 1)]
    whole = [[set() for _ in range(most + 1)] for _ in range(most_words + 1)]
    led[0][0].add(())
    for many in range(1, most_words + 1):
        for cost in range(most + 1):
            if many >= 2 and cost >= 1:
                whole[many][cost] = {tuple(many - 1 - word for word in order) for order in led[many][cost - 1]}
            found = {joined((0,), rest) for rest in led[many - 1][cost]}
            for size in range(2, many + 1):
                for used in range(1, cost + 1):
                    for first in whole[size][used]:
                        found |= {joined(first, rest) for rest in led[many - size][cost - used]}
            led[many][cost] = found
    return led


def led_to_by_depth(most_words, most):
    """Orders by [words][depth] to which nested turns of at most this depth lead, however many."""
    led = [[set() for _ in range(most + 1)] for _ in range(most_words + 1)]
    for deep in range(most + 1):
        led[0][deep].add(())
        for many in range(1, most_words + 1):
            found = {joined((0,), rest) for rest in led[many - 1][deep]}
            for size in range(2, many + 1 if deep else 2):
                for inner in led[size][deep - 1]:
                    turned = tuple(size - 1 - word for word in inner)
                    found |= {joined(turned, rest) for rest in led[many - size][deep]}
            led[many][deep] = found
    return led


class WholeTest(unittest.TestCase):
    """Point 2: the nest's turns are the fewest and the least deep; no nested turns lead to a barred order."""

    def test_by_all_lists_of_turns_of_small_rows(self):
        for many in range(1, 5):
            fewest, shallowest = {}, {}
            for length in range(5):
                for turns in itertools.product(turns_of_row(many), repeat=length):
                    if nested_by_places(turns):
                        order = done(many, list(turns))
                        fewest.setdefault(order, length)
                        deep = depth_by_places(turns)
                        shallowest[order] = min(shallowest.get(order, deep), deep)
            for order in orders_of(many):
                nest = nest_of(order)
                if nest == "barred":
                    self.assertNotIn(order, fewest)
                else:
                    self.assertEqual(fewest[order], len(turns_of(nest)))
                    self.assertEqual(shallowest[order], deepest(turns_of(nest)))

    def test_no_fewer_turns_of_up_to_six_words(self):
        led = led_to(6, 5)
        for many in range(1, 7):
            for order in orders_of(many):
                costs = [cost for cost in range(6) if order in led[many][cost]]
                nest = nest_of(order)
                self.assertEqual(nest == "barred", bar_of(order) is not None)
                if nest == "barred":
                    self.assertEqual(costs, [])
                else:
                    self.assertEqual(costs[0], len(turns_of(nest)))

    def test_no_less_depth_of_up_to_six_words(self):
        led = led_to_by_depth(6, 7)
        for many in range(1, 7):
            # From here on more depth leads to no more orders: these are all that there are.
            self.assertEqual(led[many][6], led[many][7])
            for order in orders_of(many):
                depths = [deep for deep in range(8) if order in led[many][deep]]
                nest = nest_of(order)
                if nest == "barred":
                    self.assertEqual(depths, [])
                else:
                    self.assertEqual(depths[0], deepest(turns_of(nest)))


if __name__ == "__main__":
    unittest.main()
