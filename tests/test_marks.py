"""Points 1 and 17: marked texts, read and written."""

import random
import unittest

from tests.samples import (
    GREAT, NO_WORDS, Pleaser, Prickly, comb, flat, great_nests, left_comb, no_nests, no_whole_numbers, refused_as,
    small_nests,
)
from turnnest.cuts import nest_of
from turnnest.errors import NoNest, NoText
from turnnest.marks import seen_words, write
from turnnest.nestnotes import read_nest
from turnnest.nests import seen, words_of
from turnnest.turns import are_nested, done, turns_of

WORD_SIGNS = "abcdefghijklmnopqrstuvwxyz0123456789"


def pairs_of(text):
    """The words, and for each pair, the outer ones first, the numbers of the words within it."""
    words, pairs, open_pairs = [], [], []
    for piece in text.split(" "):
        if piece == "<":
            open_pairs.append(len(pairs))
            pairs.append([len(words), None])
        elif piece == ">":
            pairs[open_pairs.pop()][1] = len(words)
        else:
            words.append(piece)
    return words, [range(*pair) for pair in pairs]


def turns_by_pairs(text):
    """The turns that the pairs are: of the places at which a pair's words are seen, the outer ones first."""
    words, pairs = pairs_of(text)
    row = list(range(len(words)))
    turns = []
    for pair in pairs:
        places = [place for place, word in enumerate(row) if word in pair]
        first, behind = places[0], places[-1] + 1
        turns.append((first, behind))
        row[first:behind] = row[first:behind][::-1]
    return turns


def as_nests_tell(turns):
    """Nested turns by rising places, each ahead of those within it."""
    return sorted(turns, key=lambda turn: (turn[0], -turn[1]))


def seen_by_turns(text):
    words = pairs_of(text)[0]
    return [words[number] for number in done(len(words), turns_by_pairs(text))]


def marked_by_chance(chance, words, most_pairs):
    """A marked text of these words; pairs are put around by halves, some of them twice and more."""
    pieces = [[] for _ in range(len(words) + 1)], [[] for _ in range(len(words) + 1)]

    def mark(first, behind):
        nonlocal most_pairs
        if behind - first < 2 or most_pairs <= 0:
            return
        for _ in range(min(most_pairs, chance.choice((0, 1, 1, 2, 3)))):
            most_pairs -= 1
            pieces[0][first].append("<")
            pieces[1][behind].append(">")
        middle = chance.randint(first, behind)
        for inner in chance.choice((((first, middle), (middle, behind)), ((first + 1, behind - 1),))):
            mark(*inner)

    mark(0, len(words))
    text = []
    for place, word in enumerate(words):
        text.extend(pieces[1][place] + pieces[0][place] + [word])
    return " ".join(text + pieces[1][len(words)])


def row_of(many):
    return [f"w{number}" for number in range(many)]


class SeenWordsTest(unittest.TestCase):
    def test_by_hand(self):
        for text, expected in (
            # words alone
            ("a", "a"),
            ("0", "0"),
            ("abcdefgh", "abcdefgh"),
            ("12345678", "12345678"),
            ("a b", "a b"),
            ("the old dog sleeps", "the old dog sleeps"),
            ("a a b a", "a a b a"),
            # one pair
            ("< a b >", "b a"),
            ("< a b c >", "c b a"),
            ("a < b c >", "a c b"),
            ("< a b > c", "b a c"),
            ("a < b c d > e", "a d c b e"),
            ("< a a b >", "b a a"),
            # pairs apart
            ("< a b > < c d e >", "b a e d c"),
            ("< a b > c < d e >", "b a c e d"),
            # pairs within one another: e d c b a, and then b c where they are seen
            ("< a < b c > d e >", "e d b c a"),
            ("< a b < c d > e >", "e c d b a"),
            ("< a < b c > < d e > f >", "f d e b c a"),
            # g f e d c b a, then b c d e in their places, then d c in theirs
            ("< a < b < c d > e > f g >", "g f b d c e a"),
            # a pair right within a pair: c b a, and then a b or b c where they are seen
            ("< < a b > c >", "c a b"),
            ("< a < b c > >", "b c a"),
            ("< < a b > < c d > >", "c d a b"),
            ("< < a b > c < d e > >", "d e c a b"),
            ("< < < a b > c > d >", "d b a c"),
            ("< a < b < c d > > >", "b d c a"),
            ("x < < a b > c > y", "x c a b y"),
            # pairs around the same words
            ("< < a b > >", "a b"),
            ("< < < a b > > >", "b a"),
            ("< < a b c > >", "a b c"),
            ("a < < b c > > d", "a b c d"),
            ("< < < a b > > c >", "c b a"),
            ("< a < < b c > > d >", "d c b a"),
        ):
            told = seen_words(text)
            self.assertIs(type(told), list)
            self.assertEqual(told, expected.split(" "), text)
            self.assertEqual(seen_by_turns(text), told, text)

    def test_every_sign_and_length_of_a_word(self):
        for sign in WORD_SIGNS:
            for length in range(1, 9):
                self.assertEqual(seen_words(sign * length), [sign * length])
            refused_as(self, NoText, seen_words, sign * 9)
        for sign in map(chr, range(0x250)):
            if sign not in WORD_SIGNS:
                refused_as(self, NoText, seen_words, sign)
                if sign != " ":
                    refused_as(self, NoText, seen_words, "a" + sign)
                    refused_as(self, NoText, seen_words, sign + "a")
                    refused_as(self, NoText, seen_words, "a " + sign + " b")

    def test_of_1_to_60_words(self):
        for many in range(1, 61):
            words = row_of(many)
            self.assertEqual(seen_words(" ".join(words)), words)
            if many > 1:
                self.assertEqual(seen_words("< " + " ".join(words) + " >"), words[::-1])
                inner = "< " + words[0] + " < " + " ".join(words[1:]) + " > >"
                if many > 2:
                    self.assertEqual(seen_words(inner), words[1:] + words[:1])
        self.assertEqual(seen_words(" ".join(["abcdefgh"] * 60)), ["abcdefgh"] * 60)

    def test_many_marked_texts(self):
        chance = random.Random(17)
        for number in range(1500):
            words = row_of(chance.randint(1, 12 if number % 2 else 60))
            text = marked_by_chance(chance, words, chance.choice((3, 10, 400)))
            turns = turns_by_pairs(text)
            self.assertTrue(are_nested(turns))
            told = seen_words(text)
            self.assertEqual(told, seen_by_turns(text), text)
            # What nested turns lead to has a nest.
            self.assertNotEqual(nest_of(tuple(words.index(word) for word in told)), "barred")

    def test_hundreds_of_marks(self):
        for pairs in (100, 101, 249, 400, 498, 499):
            text = "< " * pairs + "a b" + " >" * pairs
            self.assertLessEqual(len(text), 2000)
            self.assertEqual(seen_words(text), ["b", "a"] if pairs % 2 else ["a", "b"])
            refused_as(self, NoText, seen_words, text + " >")
            refused_as(self, NoText, seen_words, text[:-2])
            refused_as(self, NoText, seen_words, text[2:])
            refused_as(self, NoText, seen_words, "< " + text)
            refused_as(self, NoText, seen_words, "< " * pairs + "a" + " >" * pairs)
            refused_as(self, NoText, seen_words, "< " * pairs + ">" + " >" * (pairs - 1))
            refused_as(self, NoText, seen_words, "> " * pairs + "a b" + " <" * pairs)
        for text in ("< " * 999 + "<", "> " * 999 + ">", "< > " * 499 + "< >", "a b " + "< " * 900 + "<"):
            refused_as(self, NoText, seen_words, text)
        row = "< " * 200 + " ".join(row_of(60)) + " >" * 200
        self.assertEqual(seen_words(row), row_of(60))

    def test_marks_that_are_not_paired(self):
        for text in (
            "<", ">", "< <", "> >", "> <", "< a b", "a b >", "a < b c", "a b > c", "a b <", "> a b", "> a b <",
            "< a b > >", "< < a b >", "< a b > <", "> < a b >", "< a b > < c d", "< a b > c d >", "a > b c < d",
            "< a < b c >", "< a b > c >", "< a b > > < c d",
        ):
            refused_as(self, NoText, seen_words, text)

    def test_fewer_than_two_words_in_a_pair(self):
        for text in (
            "< >", "< a >", "a < >", "< > a", "a < > b", "a < b > c", "< a > b", "< a b < > >", "< a < b > >",
            "< a < b > c >", "< < a > b >", "< < a > >", "< < > a b >", "< a b > < c >", "< a > < b >",
            "< < a b > < c > >",
        ):
            refused_as(self, NoText, seen_words, text)

    def test_no_words_and_61_words(self):
        for text in ("", " ", "  ", "< >", "< < > >"):
            refused_as(self, NoText, seen_words, text)
        for many in (61, 62, 100, 900):
            text = " ".join("a" * many)
            refused_as(self, NoText, seen_words, text)
            refused_as(self, NoText, seen_words, "< " + text + " >")
            refused_as(self, NoText, seen_words, text + " < b b >")

    def test_blanks(self):
        for text in ("a b", "a", "< a b >", "a < b c > d", "< a < b c > d >"):
            seen_words(text)
            refused_as(self, NoText, seen_words, " " + text)
            refused_as(self, NoText, seen_words, text + " ")
            for place, sign in enumerate(text):
                if sign == " ":
                    refused_as(self, NoText, seen_words, text[:place] + " " + text[place:])
                    for other in "\t\n\r\x0b\x0c\xa0\u2003":
                        refused_as(self, NoText, seen_words, text[:place] + other + text[place + 1:])
        for text in ("<a b>", "< a b>", "<a b >", "<< a b >>", "< a b >< c d >", "< < a b >>"):
            refused_as(self, NoText, seen_words, text)

    def test_words_that_are_none(self):
        for word in NO_WORDS:
            for ahead, behind in (
                ("", ""), ("", " b"), ("a ", ""), ("a ", " b"), ("< a ", " >"), ("< ", " b >"), ("< a b ", " >"),
                ("< a b > ", ""),
            ):
                refused_as(self, NoText, seen_words, ahead + word + behind)

    def test_each_list_is_a_new_one(self):
        for text in ("a", "a b c", "< a b >", "< < a b > >"):
            first = seen_words(text)
            expected = list(first)
            self.assertIsNot(seen_words(text), first)
            first.append("b")
            first.reverse()
            self.assertEqual(seen_words(text), expected)


class WriteTest(unittest.TestCase):
    def test_by_hand(self):
        for note, words, expected in (
            (".", "a", "a"),
            ("(+..)", "a b", "a b"),
            ("(-..)", "a b", "< a b >"),
            ("(+...)", "a b c", "a b c"),
            ("(-...)", "a b c", "< a b c >"),
            ("(-...)", "a b a", "< a b a >"),
            ("(+.(-..).)", "a b c d", "a < b c > d"),
            ("(-(+..).)", "a b c", "< < a b > c >"),
            ("(-.(+..))", "a b c", "< a < b c > >"),
            ("(+(-..)(-...))", "a b c d e", "< a b > < c d e >"),
            ("(-(+..)(+...))", "a b c d e", "< < a b > < c d e > >"),
            ("(+(-.(+.(-..))).)", "a b c d e", "< a < b < c d > > > e"),
            ("(-.(+..).(+...).)", "1 22 333 1 2 abcdefgh 0 z", "< 1 < 22 333 > 1 < 2 abcdefgh 0 > z >"),
        ):
            told = write(words.split(" "), read_nest(note))
            self.assertIs(type(told), str)
            self.assertEqual(told, expected, note)

    def test_all_small_and_many_great_nests(self):
        for nest in small_nests(6) + great_nests():
            words = row_of(words_of(nest))
            text = write(words, nest)
            self.assertEqual(pairs_of(text)[0], words)
            self.assertEqual(as_nests_tell(turns_by_pairs(text)), turns_of(nest), text)
            self.assertEqual(seen_words(text), [words[number] for number in seen(nest)], text)

    def test_words_that_are_alike_and_long_ones(self):
        for nest in (comb(59), comb(59, "-"), left_comb(59), flat("+", 60), flat("-", 60)):
            text = write(["abcdefgh"] * 60, nest)
            self.assertEqual(pairs_of(text)[0], ["abcdefgh"] * 60)
            self.assertEqual(as_nests_tell(turns_by_pairs(text)), turns_of(nest))
            self.assertLessEqual(len(text), 2000)
            self.assertEqual(seen_words(text), ["abcdefgh"] * 60)

    def test_every_word_sign(self):
        for sign in WORD_SIGNS:
            for length in range(1, 9):
                self.assertEqual(write([sign * length], None), sign * length)
            refused_as(self, NoText, write, [sign * 9], None)

    def test_too_many_and_too_few_words(self):
        for nest in small_nests(4) + [flat("+", 59), flat("-", 60), comb(59)]:
            for many in (0, 1, 2, 3, 4, 5, 58, 59, 60, 61, 400):
                if many != words_of(nest):
                    refused_as(self, NoText, write, ["a"] * many, nest)

    def test_words_that_are_none(self):
        wrong = list(NO_WORDS) + ["<", ">", " ", "a b", " a", "a ", "< a b >", 0, 1, -1, GREAT, None, True, False]
        wrong += [Prickly(), Pleaser(), ["a"], ("a",), b"a", {"a": "a"}, {"a"}, object(), str]
        wrong += [thing for thing in no_whole_numbers() if thing.__class__ is not str]
        for thing in wrong:
            refused_as(self, NoText, write, [thing], None)
            for nest in (flat("+", 3), flat("-", 3), comb(2), left_comb(2)):
                for words in (
                    [thing, "b", "c"], ["a", thing, "c"], ["a", "b", thing], [thing] * 3, [thing], [thing] * 4,
                ):
                    refused_as(self, NoText, write, words, nest)
            refused_as(self, NoText, write, ["a"] * 59 + [thing], comb(59))

    def test_what_is_no_nest_ahead_of_the_words(self):
        for thing in no_nests() + ["barred"]:
            for words in (["a"], ["a", "b"], [], [""], [None, 1], ["A"], ["<"], [Prickly()], ["a"] * 61, ["a"] * 400):
                refused_as(self, NoNest, write, words, thing)

    def test_the_list_stays_and_is_not_kept(self):
        words = ["a", "b", "c"]
        nest = read_nest("(-(+..).)")
        told = write(words, nest)
        self.assertEqual(words, ["a", "b", "c"])
        words.reverse()
        self.assertEqual(told, "< < a b > c >")
        self.assertEqual(write(words, nest), "< < c b > a >")
        refused = ["a", "B", "c"]
        refused_as(self, NoText, write, refused, nest)
        self.assertEqual(refused, ["a", "B", "c"])


if __name__ == "__main__":
    unittest.main()
