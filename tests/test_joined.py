"""Points 1 and 16: nests put together, told from the nests alone."""

import itertools
import random
import unittest

from tests.samples import (
    GREAT, comb, flat, great_nests, left_comb, mixed_knot, no_nests, no_whole_numbers, refused_as, small_nests,
)
from turnnest.cuts import nest_of
from turnnest.errors import NoNest, NoOrder, NoWords
from turnnest.joined import back_nest, joined_nest, left_nest, mirror_nest
from turnnest.nestnotes import read_nest, show_nest
from turnnest.nests import is_nest, seen, words_of
from turnnest.orders import back, left_of, mirror, put_together


class BackNestTest(unittest.TestCase):
    def test_by_hand(self):
        for note, expected in (
            (".", "."),
            ("(+..)", "(+..)"),
            ("(-...)", "(-...)"),
            ("(-(+..).)", "(-.(+..))"),
            ("(-.(+..))", "(-(+..).)"),
            ("(+.(-..).)", "(+.(-..).)"),
            ("(+(-..).)", "(+(-..).)"),
            ("(-(+...).(+..))", "(-(+..).(+...))"),
            ("(+.(-(+..).))", "(+.(-.(+..)))"),
            ("(-(+(-..).)(+.(-(+..).)).)", "(-.(+.(-.(+..)))(+(-..).))"),
        ):
            self.assertEqual(show_nest(back_nest(read_nest(note))), expected, note)

    def test_all_small_and_many_great_nests(self):
        for nest in small_nests(7) + great_nests():
            told = back_nest(nest)
            self.assertTrue(is_nest(told))
            self.assertEqual(seen(told), back(seen(nest)))
            self.assertEqual(told, nest_of(back(seen(nest))))
            self.assertEqual(back_nest(told), nest)

    def test_what_is_no_nest(self):
        for thing in no_nests() + ["barred"]:
            refused_as(self, NoNest, back_nest, thing)


class MirrorNestTest(unittest.TestCase):
    def test_by_hand(self):
        for note, expected in (
            (".", "."),
            ("(+..)", "(-..)"),
            ("(-...)", "(+...)"),
            ("(-(+..).)", "(+(-..).)"),
            ("(-.(+..))", "(+.(-..))"),
            ("(+.(-(+..).))", "(-.(+(-..).))"),
            ("(-(+...).(+..))", "(+(-...).(-..))"),
        ):
            self.assertEqual(show_nest(mirror_nest(read_nest(note))), expected, note)

    def test_all_small_and_many_great_nests(self):
        for nest in small_nests(7) + great_nests():
            told = mirror_nest(nest)
            self.assertTrue(is_nest(told))
            self.assertEqual(seen(told), mirror(seen(nest)))
            self.assertEqual(told, nest_of(mirror(seen(nest))))
            self.assertEqual(mirror_nest(told), nest)

    def test_what_is_no_nest(self):
        for thing in no_nests() + ["barred"]:
            refused_as(self, NoNest, mirror_nest, thing)


class LeftNestTest(unittest.TestCase):
    def assert_told(self, nest, words):
        handed = list(words)
        told = left_nest(nest, handed)
        self.assertEqual(handed, list(words))
        self.assertTrue(is_nest(told))
        self.assertEqual(told, nest_of(left_of(seen(nest), list(words))))

    def test_by_hand(self):
        for note, words, expected in (
            (".", [0], "."),
            ("(+..)", [0, 1], "(+..)"),
            ("(+..)", [1], "."),
            ("(-...)", [2, 0], "(-..)"),
            # a knot with one part left is that part
            ("(+.(-..).)", [0, 1, 3], "(+...)"),
            ("(+.(-..).)", [1, 2], "(-..)"),
            ("(+.(-..).)", [2], "."),
            # what is left of a part may be of the whole's own kind
            ("(+.(-.(+..)))", [0, 2, 3], "(+...)"),
            ("(+.(-.(+..)).)", [4, 3, 2, 0], "(+....)"),
            ("(-(+(-..).)(+.(-..)))", [0, 1, 4, 5], "(-....)"),
            ("(-(+(-..).)(+.(-..)))", [1, 2, 3], "(-(+..).)"),
            # nothing is left of a part
            ("(-(+..)(+..).)", [0, 1, 4], "(-(+..).)"),
            ("(-(+..)(+..).)", [2, 3], "(+..)"),
        ):
            self.assertEqual(show_nest(left_nest(read_nest(note), words)), expected, note)

    def test_all_words_of_all_small_nests(self):
        for nest in small_nests(5):
            many = words_of(nest)
            for length in range(1, many + 1):
                for words in itertools.combinations(range(many), length):
                    self.assert_told(nest, words)

    def test_words_in_any_order(self):
        for nest in small_nests(4):
            many = words_of(nest)
            for length in range(1, many + 1):
                for words in itertools.permutations(range(many), length):
                    self.assert_told(nest, words)

    def test_many_great_nests(self):
        chance = random.Random(16)
        for nest in great_nests():
            many = words_of(nest)
            for length in (1, 2, many // 2, many - 1, many, chance.randint(1, many), chance.randint(1, many)):
                self.assert_told(nest, chance.sample(range(many), length))

    def test_all_words_and_one_word(self):
        for nest in small_nests(5) + great_nests():
            many = words_of(nest)
            self.assertEqual(left_nest(nest, list(range(many))), nest)
            self.assertEqual(left_nest(nest, list(range(many - 1, -1, -1))), nest)
            self.assertIsNone(left_nest(nest, [0]))
            self.assertIsNone(left_nest(nest, [many - 1]))

    def test_every_second_word_of_sixty(self):
        for nest in (comb(59), comb(59, "-"), left_comb(59), left_comb(59, "-")):
            for first in (0, 1):
                self.assert_told(nest, range(first, 60, 2))
                self.assert_told(nest, range(59 - first, -1, -2))

    def test_words_that_are_none(self):
        for nest in (None, flat("+", 2), flat("-", 3), comb(59)):
            many = words_of(nest)
            wrong = [
                [], [many], [-1], [0, many], [0, -1], [0, 0], [many - 1, 0, many - 1], [0] * 400,
                list(range(many)) + [0], list(range(many + 1)), list(range(400)), [-many], [GREAT], [0, -GREAT],
            ]
            for thing in no_whole_numbers():
                wrong.extend([[thing], [0, thing], [thing, 0], [thing, thing]])
            for words in wrong:
                refused_as(self, NoWords, left_nest, nest, words)

    def test_what_is_no_nest_ahead_of_the_words(self):
        for thing in no_nests() + ["barred"]:
            for words in ([0], [0, 1], [], [0, 0], [-1], [GREAT], [None], [True], ["0"], [[]], list(range(400))):
                refused_as(self, NoNest, left_nest, thing, words)

    def test_the_list_stays_and_is_not_kept(self):
        words = [3, 0, 2]
        nest = read_nest("(-(+(-..).).)")
        told = left_nest(nest, words)
        words.clear()
        self.assertEqual(show_nest(told), "(-(+..).)")
        refused = [2, 1, 2]
        refused_as(self, NoWords, left_nest, nest, refused)
        self.assertEqual(refused, [2, 1, 2])
        self.assertEqual(show_nest(nest), "(-(+(-..).).)")


class JoinedNestTest(unittest.TestCase):
    def assert_told(self, nest, nests):
        handed = list(nests)
        told = joined_nest(nest, handed)
        self.assertEqual(handed, list(nests))
        self.assertTrue(is_nest(told))
        self.assertEqual(told, nest_of(put_together(seen(nest), [seen(inner) for inner in nests])))

    def test_by_hand(self):
        for note, notes, expected in (
            (".", ["."], "."),
            (".", ["(-..)"], "(-..)"),
            ("(+..)", [".", "."], "(+..)"),
            ("(+..)", ["(-..)", "."], "(+(-..).)"),
            # parts of the knot's own kind come into it
            ("(+..)", ["(+..)", "."], "(+...)"),
            ("(+..)", ["(+.(-..))", "(+...)"], "(+.(-..)...)"),
            ("(-..)", ["(-(+..).)", "(-..)"], "(-(+..)...)"),
            ("(-.(+..))", ["(+..)", "(-..)", "(+..)"], "(-(+..)(+(-..)..))"),
            ("(+.(-..))", ["(+..)", "(+..)", "(-..)"], "(+..(-(+..)..))"),
        ):
            told = joined_nest(read_nest(note), [read_nest(inner) for inner in notes])
            self.assertEqual(show_nest(told), expected, note)

    def test_all_small_ones(self):
        inner = small_nests(3)
        for nest in small_nests(3):
            for nests in itertools.product(inner, repeat=words_of(nest)):
                self.assert_told(nest, nests)
        for nest in small_nests(4):
            for nests in itertools.product(small_nests(2), repeat=words_of(nest)):
                self.assert_told(nest, nests)

    def test_words_alone_and_a_word_alone(self):
        for nest in small_nests(5) + great_nests():
            self.assertEqual(joined_nest(nest, [None] * words_of(nest)), nest)
            self.assertEqual(joined_nest(None, [nest]), nest)

    def test_many_up_to_60_words(self):
        chance = random.Random(17)
        for many in list(range(2, 31)) * 6:
            nest = mixed_knot(chance, many, chance.choice("+-"))
            sizes = [1] * many
            for _ in range(chance.choice((60 - many, chance.randint(0, 60 - many)))):
                sizes[chance.randrange(many)] += 1
            self.assert_told(nest, [mixed_knot(chance, size, chance.choice("+-")) for size in sizes])

    def test_just_60_words(self):
        for kind in "+-":
            for inner_kind in "+-":
                self.assert_told(flat(kind, 2), [flat(inner_kind, 30)] * 2)
                self.assert_told(flat(kind, 30), [flat(inner_kind, 2)] * 30)
                self.assert_told(comb(29, kind), [flat(inner_kind, 2)] * 30)
                self.assert_told(comb(58, kind), [None] * 58 + [flat(inner_kind, 2)])
                self.assert_told(flat(kind, 2), [comb(29, inner_kind), left_comb(29, inner_kind)])

    def test_fewer_and_more_nests_than_words(self):
        for nest in small_nests(4) + [comb(59)]:
            for many in (0, 1, 2, 3, 4, 5, 6, 59, 60, 61, 400):
                if many != words_of(nest):
                    refused_as(self, NoOrder, joined_nest, nest, [None] * many)

    def test_61_words_and_more(self):
        for kind in "+-":
            pair = flat(kind, 2)
            refused_as(self, NoOrder, joined_nest, pair, [flat("+", 30), flat("-", 31)])
            refused_as(self, NoOrder, joined_nest, pair, [flat("+", 60), None])
            refused_as(self, NoOrder, joined_nest, pair, [None, flat("-", 60)])
            refused_as(self, NoOrder, joined_nest, flat(kind, 60), [None] * 59 + [pair])
            refused_as(self, NoOrder, joined_nest, flat(kind, 60), [comb(59)] * 60)

    def test_what_is_no_nest_ahead_of_the_numbers(self):
        pair = flat("+", 2)
        sixty = flat("-", 60)
        for thing in no_nests() + ["barred"]:
            for nests in ([None], [None, None], [], [sixty, sixty], [None] * 400, [thing]):
                refused_as(self, NoNest, joined_nest, thing, nests)
            for nests in (
                [thing, None], [None, thing], [thing], [thing, None, None], [None, None, thing], [thing, thing],
                [sixty, thing], [thing, sixty], [sixty, sixty, thing], [None] * 399 + [thing],
            ):
                refused_as(self, NoNest, joined_nest, pair, nests)
            refused_as(self, NoNest, joined_nest, None, [thing])

    def test_the_list_stays_and_is_not_kept(self):
        nests = [flat("-", 2), None]
        told = joined_nest(flat("+", 2), nests)
        nests.reverse()
        self.assertEqual(show_nest(told), "(+(-..).)")
        refused_as(self, NoOrder, joined_nest, flat("+", 3), nests)
        self.assertEqual(nests, [None, flat("-", 2)])


if __name__ == "__main__":
    unittest.main()
