"""Points 1 and 18: the desk, told rows and answering texts."""

import random
import unittest

from tests.samples import GREAT, NO_WORDS, no_whole_numbers, orders_of, refused_as
from turnnest.bars import bar_of
from turnnest.cuts import nest_of
from turnnest.desk import Desk
from turnnest.errors import NoNumber, NoOrder, NoRow, NoText, NoWords, TooMany
from turnnest.marks import write
from turnnest.nestnotes import show_nest
from turnnest.nests import seen
from turnnest.numbers import how_many, nest_at, number_of
from turnnest.orders import left_of
from turnnest.staying import most_staying
from turnnest.turns import turns_of

QUESTIONS = ("seen", "nest", "marks", "turns", "stay", "number")

# Texts that write no number.
NO_NUMBERS = (
    "", "a", "x1", "1x", "-1", "+1", "-0", "+0", "00", "01", "007", "00000", "0" * 60, "0" + "1" * 59, "1" * 61,
    "1" + "0" * 60, "9" * 200, "1.0", "1e1", "0x1", "1_0", "_1", "1,2", "(1)", "<", ">", "~", "\t", "1\t", "1\n", "\n1",
    "\n", "\xb2", "\u0661", "1\u0661", "\u2460", "\uff11", "\U0001d7d9", "\u4e00", "one", "None", "True",
)


def desk_with(*rows):
    desk = Desk()
    for row in rows:
        if desk.say(row) != "ok":
            raise AssertionError(row)
    return desk


def in_a_row(numbers):
    return " ".join(str(number) for number in numbers)


def answers(desk, questions=QUESTIONS):
    return [desk.say(question) for question in questions]


def answers_by_modules(words, order):
    """What a desk with such a row answers, told by the parts of the program that it stands on."""
    told = [" ".join(words[number] for number in order)]
    nest = nest_of(order)
    stay = in_a_row(most_staying(order))
    if nest == "barred":
        return told + ["barred " + in_a_row(bar_of(order)), "barred", "barred", stay, "barred"]
    return told + [show_nest(nest), write(words, nest), str(len(turns_of(nest))), stay, str(number_of(nest))]


class DeskTest(unittest.TestCase):
    def assert_answers(self, desk, expected):
        told = answers(desk)
        self.assertEqual([answer.__class__ for answer in told], [str] * 6)
        self.assertEqual(told, expected)

    def test_words_seen_as_they_come(self):
        desk = Desk()
        self.assertEqual(desk.say("text the old dog sleeps"), "ok")
        self.assert_answers(
            desk, ["the old dog sleeps", "(+....)", "the old dog sleeps", "0", "0 1 2 3", "4"]
        )

    def test_an_order_with_a_nest(self):
        desk = desk_with("text the old dog sleeps")
        self.assertEqual(desk.say("order 2 3 0 1"), "ok")
        self.assert_answers(
            desk, ["dog sleeps the old", "(-(+..)(+..))", "< < the old > < dog sleeps > >", "3", "0 1 2 3", "17"]
        )
        self.assertEqual(desk.say("order 0 2 1 3"), "ok")
        self.assert_answers(
            desk, ["the dog old sleeps", "(+.(-..).)", "the < old dog > sleeps", "1", "0 1 2 3", "5"]
        )
        self.assertEqual(desk.say("order 3 2 1 0"), "ok")
        self.assert_answers(
            desk, ["sleeps dog old the", "(-....)", "< the old dog sleeps >", "1", "0 1 2 3", "15"]
        )

    def test_an_order_with_a_bar(self):
        desk = desk_with("text the old dog sleeps", "order 1 3 0 2")
        told = answers(desk)
        self.assertEqual(told[:4], ["old sleeps the dog", "barred 0 1 2 3", "barred", "barred"])
        self.assertEqual(told[5], "barred")
        self.assertIn(told[4], ("0 1 2", "0 1 3", "0 2 3", "1 2 3"))
        desk = desk_with("text a b c d e f", "order 1 4 2 5 0 3")
        told = answers(desk)
        self.assertIn(told[1], ("barred 0 1 4 5", "barred 0 3 4 5", "barred 2 3 4 5", "barred 1 2 3 5"))
        self.assertEqual(told[:1] + told[2:], ["b e c f a d", "barred", "barred", "0 1 2 4 5", "barred"])

    def test_one_word(self):
        desk = desk_with("text 7up")
        for row in ("order 0", "take 0"):
            self.assert_answers(desk, ["7up", ".", "7up", "0", "0", "0"])
            self.assertEqual(desk.say(row), "ok")
        self.assert_answers(desk, ["7up", ".", "7up", "0", "0", "0"])
        for row, refusal in (
            ("order 1", NoOrder), ("order 0 0", NoOrder), ("order 0 1", NoOrder), ("take 1", NoNumber),
            ("drop 0", NoWords), ("drop 1", NoWords),
        ):
            refused_as(self, refusal, desk.say, row)
        self.assert_answers(desk, ["7up", ".", "7up", "0", "0", "0"])

    def test_take(self):
        desk = desk_with("text a b c")
        for number, expected in enumerate((
            # the document's numbers, worked out by hand
            ["a c b", "(+.(-..))", "a < b c >", "1"],
            ["a b c", "(+...)", "a b c", "0"],
            ["b a c", "(+(-..).)", "< a b > c", "1"],
            ["b c a", "(-.(+..))", "< a < b c > >", "2"],
            ["c b a", "(-...)", "< a b c >", "1"],
            ["c a b", "(-(+..).)", "< < a b > c >", "2"],
        )):
            self.assertEqual(desk.say(f"take {number}"), "ok")
            self.assert_answers(desk, expected + ["0 1 2", str(number)])
        for number in (6, 7, 22, 60, 10 ** 59, 10 ** 60 - 1):
            refused_as(self, NoNumber, desk.say, f"take {number}")
        self.assertEqual(desk.say("seen"), "c a b")
        # whatever the order was before
        desk = desk_with("text a b c d", "order 1 3 0 2", "take 5")
        self.assertEqual(desk.say("seen"), "a c b d")

    def test_take_of_60_words(self):
        words = [f"w{number}" for number in range(60)]
        desk = desk_with("text " + " ".join(words))
        most = how_many(60)
        self.assertLess(len(str(most)), 60)
        for number in (0, 1, most // 3, most // 2, most - 1):
            self.assertEqual(desk.say(f"take {number}"), "ok")
            self.assertEqual(desk.say("number"), str(number))
            self.assertEqual(desk.say("seen"), " ".join(words[word] for word in seen(nest_at(60, number))))
        refused_as(self, NoNumber, desk.say, f"take {most}")
        self.assertEqual(desk.say("number"), str(most - 1))

    def test_drop(self):
        desk = desk_with("text a b c d e", "order 4 2 3 0 1")
        self.assertEqual(desk.say("seen"), "e c d a b")
        self.assertEqual(desk.say("drop 2"), "ok")
        self.assert_answers(desk, ["e d a b", "(-(+..)..)", "< < a b > d e >", "2", "0 1 2 3", "18"])
        self.assertEqual(desk.say("drop 3"), "ok")
        self.assertEqual(desk.say("seen"), "d a b")
        self.assertEqual(desk.say("drop 0"), "ok")
        self.assert_answers(desk, ["d b", "(-..)", "< b d >", "1", "0 1", "1"])
        refused_as(self, NoWords, desk.say, "drop 2")
        self.assertEqual(desk.say("drop 0"), "ok")
        self.assertEqual(desk.say("seen"), "d")
        refused_as(self, NoWords, desk.say, "drop 0")
        refused_as(self, NoWords, desk.say, "drop 1")
        self.assertEqual(desk.say("seen"), "d")

    def test_without_a_word_at_the_bar_the_order_has_a_nest(self):
        desk = desk_with("text the old dog sleeps", "order 1 3 0 2", "drop 3")
        self.assert_answers(desk, ["old the dog", "(+(-..).)", "< the old > dog", "1", "0 1 2", "2"])

    def test_a_row_of_words_anew(self):
        desk = desk_with("text a b c", "order 2 1 0", "text d e")
        self.assert_answers(desk, ["d e", "(+..)", "d e", "0", "0 1", "0"])
        self.assertEqual(desk.say("text a a a"), "ok")
        self.assertEqual(desk.say("seen"), "a a a")
        # the beginnings of rows are words like others
        self.assertEqual(desk.say("text text seen order"), "ok")
        self.assertEqual(desk.say("seen"), "text seen order")

    def test_all_orders_of_up_to_five_words(self):
        words = "one two three four five".split(" ")
        desk = Desk()
        for many in range(1, 6):
            desk.say("text " + " ".join(words[:many]))
            for order in orders_of(many):
                self.assertEqual(desk.say("order " + in_a_row(order)), "ok")
                self.assert_answers(desk, answers_by_modules(words[:many], order))

    def test_long_talks(self):
        chance = random.Random(18)
        for _ in range(60):
            many = chance.randint(1, 12)
            words, order = [f"w{number}" for number in range(many)], tuple(range(many))
            desk = desk_with("text " + " ".join(words))
            for _ in range(12):
                what = chance.choice(("order", "take", "drop"))
                if what == "order":
                    order = tuple(chance.sample(range(len(words)), len(words)))
                    row = "order " + in_a_row(order)
                elif what == "take":
                    number = chance.randrange(how_many(len(words)))
                    order, row = seen(nest_at(len(words), number)), f"take {number}"
                elif len(words) > 1:
                    number = chance.randrange(len(words))
                    row = f"drop {number}"
                    order = left_of(order, [word for word in order if word != number])
                    words = words[:number] + words[number + 1:]
                else:
                    row = "text b"
                    words, order = ["b"], (0,)
                self.assertEqual(desk.say(row), "ok")
                self.assert_answers(desk, answers_by_modules(words, order))

    def test_stay_of_12_and_13_words(self):
        twelve = "text " + " ".join("abcdefghijkl")
        desk = desk_with(twelve, "order 1 3 0 2 4 5 6 7 8 9 10 11")
        self.assertEqual(len(desk.say("stay").split(" ")), 11)
        desk = desk_with(twelve + " m")
        refused_as(self, TooMany, desk.say, "stay")
        self.assertEqual(desk.say("drop 12"), "ok")
        self.assertEqual(desk.say("stay"), "0 1 2 3 4 5 6 7 8 9 10 11")
        for many in (13, 20, 60):
            desk = desk_with("text " + " ".join("a" * many))
            refused_as(self, TooMany, desk.say, "stay")
            self.assertEqual(desk.say("seen"), " ".join("a" * many))

    def test_60_words(self):
        words = [f"w{number}" for number in range(60)]
        desk = desk_with("text " + " ".join(words), "order " + in_a_row(range(59, -1, -1)))
        self.assertEqual(desk.say("seen"), " ".join(words[::-1]))
        self.assertEqual(desk.say("nest"), "(-" + "." * 60 + ")")
        self.assertEqual(desk.say("marks"), "< " + " ".join(words) + " >")
        self.assertEqual(desk.say("turns"), "1")
        order = (1, 3, 0, 2) + tuple(range(4, 60))
        self.assertEqual(desk.say("order " + in_a_row(order)), "ok")
        self.assertEqual(desk.say("nest"), "barred 0 1 2 3")
        order = tuple(range(56)) + (58, 56, 59, 57)
        self.assertEqual(desk.say("order " + in_a_row(order)), "ok")
        self.assertEqual(desk.say("nest"), "barred 56 57 58 59")

    def test_two_desks(self):
        one, two = Desk(), Desk()
        one.say("text a b c")
        refused_as(self, NoRow, two.say, "seen")
        two.say("text d e f")
        one.say("order 2 1 0")
        two.say("order 1 2 0")
        self.assertEqual((one.say("seen"), two.say("seen")), ("c b a", "e f d"))
        one.say("drop 1")
        self.assertEqual((one.say("seen"), two.say("seen")), ("c a", "e f d"))
        refused_as(self, NoRow, Desk().say, "seen")


class RefusalsTest(unittest.TestCase):
    def desks(self):
        """Desks with a nest, with a bar, with one word, and with many."""
        return [
            desk_with("text a b c d", "order 2 3 0 1"),
            desk_with("text a b c d e", "order 1 4 2 0 3"),
            desk_with("text a"),
            desk_with("text " + " ".join("a" * 60), "order " + in_a_row(range(59, -1, -1))),
        ]

    def assert_refused(self, refusal, rows, desks=None):
        """Each row is refused so, by each of the desks, and changes nothing."""
        for desk in desks or self.desks():
            questions = [question for question in QUESTIONS if question != "stay"]
            before = answers(desk, questions)
            for row in rows:
                refused_as(self, refusal, desk.say, row)
                self.assertEqual(answers(desk, questions), before)

    def test_no_text(self):
        things = [thing for thing in no_whole_numbers() if not isinstance(thing, str)]
        things += [0, 1, -1, GREAT, ["seen"], ("seen",), b"seen", {"seen": "seen"}, ["text", "a"], None]
        self.assert_refused(NoRow, things)
        for thing in things:
            refused_as(self, NoRow, Desk().say, thing)

    def test_rows_that_begin_otherwise(self):
        rows = [
            "", " ", "  ", "a", "0", "ok", "barred", "Seen", "SEEN", "see", "seen.", "seen\n", "\nseen", "seent",
            "Text a", "texts a", "tex a", "orders 0", "take0", "drop0", "order0", "text\ta", "take\t0", "seen\t",
            "words", "help", "row", "<", "a b", "mark", "turn", "stays", "numbers", "nests", "TAKE 0", "Drop 0", "bar",
            "cuts", "?",
        ]
        rows += [" " + row for row in QUESTIONS + ("text a b", "order 0", "take 0", "drop 0")]
        rows += ["  " + row for row in QUESTIONS + ("text a b", "order 0", "take 0", "drop 0")]
        self.assert_refused(NoRow, rows)
        for row in rows:
            refused_as(self, NoRow, Desk().say, row)

    def test_rows_with_other_than_their_words(self):
        rows = ["text", "order", "take", "drop"]
        for question in QUESTIONS:
            rows += [question + " a", question + " 0", question + " " + question, question + " ", question + "  "]
            rows += [question + " a b c", question + "  a"]
        for name in ("take", "drop"):
            rows += [name + " 0 0", name + " 0 1", name + " 0 ", name + "  0", name + "  ", name + " 0  "]
            rows += [name + " x y", name + " 00 0", name + " 1 2 3", name + " -1 0"]
        self.assert_refused(NoRow, rows)
        for row in rows:
            refused_as(self, NoRow, Desk().say, row)

    def test_what_needs_a_row_of_words_while_there_is_none(self):
        desk = Desk()
        rows = list(QUESTIONS) + ["order 0", "order 0 1", "order 0 0", "take 0", "take 1", "drop 0", "drop 1"]
        rows += [name + " " + number for name in ("order", "take", "drop") for number in NO_NUMBERS]
        for row in rows:
            refused_as(self, NoRow, desk.say, row)
        # A refused row of words is none.
        refused_as(self, NoText, desk.say, "text A")
        for row in rows:
            refused_as(self, NoRow, desk.say, row)
        self.assertEqual(desk.say("text a"), "ok")
        self.assertEqual(desk.say("seen"), "a")

    def test_numbers_that_are_none(self):
        rows = []
        for number in NO_NUMBERS:
            rows += [f"take {number}", f"drop {number}", f"order {number}"]
        self.assert_refused(NoNumber, rows)

    def test_numbers_that_are_none_among_others(self):
        rows = []
        for number in NO_NUMBERS:
            # ahead of what is no order otherwise
            rows += [f"order 0 {number}", f"order {number} 0", f"order 0 0 {number}", f"order 99 {number} 99"]
            rows += [f"order 2 3 {number} 1", f"order {number} 0 1 2 3 4 5"]
        self.assert_refused(NoNumber, rows)
        # Where two blanks stand, or one at the end, there is a number without signs.
        self.assert_refused(NoNumber, ["order ", "take ", "drop ", "order  0", "order 0 ", "order 0  1", "order  "])

    def test_numbers_of_up_to_60_figures(self):
        for number in ("99", "9" * 59, "1" + "0" * 59, "9" * 60):
            desks = self.desks()
            self.assert_refused(NoNumber, ["take " + number], desks[:3])
            self.assert_refused(NoWords, ["drop " + number], desks)
            self.assert_refused(NoOrder, ["order " + number, "order 0 1 2 " + number], desks)
        self.assert_refused(NoNumber, ["take " + "9" * 60])

    def test_words_that_are_none(self):
        rows = ["text ", "text  ", "text  a", "text a ", "text a  b", "text <", "text < a b >", "text a >"]
        for word in NO_WORDS:
            rows += [f"text {word}", f"text a {word}", f"text {word} b", f"text a {word} b"]
        rows += ["text " + " ".join("a" * many) for many in (61, 62, 100, 900)]
        self.assert_refused(NoText, rows)
        for row in rows:
            desk = Desk()
            refused_as(self, NoText, desk.say, row)
            refused_as(self, NoRow, desk.say, "seen")

    def test_orders_that_are_none(self):
        nested, barred, alone, sixty = self.desks()
        for desk, many in ((nested, 4), (barred, 5), (alone, 1), (sixty, 60)):
            wrong = [
                [many] * many, list(range(1, many + 1)), [0] * (many + 1), list(range(many + 1)), list(range(61)),
                list(range(400)), [0, 0], [10 ** 59], list(range(many - 1)) + [many],
            ]
            if many > 1:
                wrong += [[0], [0] * many, list(range(many - 1)), list(range(many - 1)) + [0], [many - 1]]
            self.assert_refused(NoOrder, ["order " + in_a_row(numbers) for numbers in wrong], [desk])

    def test_numbers_of_no_nest_and_no_word(self):
        nested, barred, alone, sixty = self.desks()
        for desk, many in ((nested, 4), (barred, 5), (alone, 1), (sixty, 60)):
            above = [how_many(many), how_many(many) + 1, 10 ** 59]
            self.assert_refused(NoNumber, [f"take {number}" for number in above], [desk])
            above = [many, many + 1, 400, 10 ** 59] + ([0] if many == 1 else [])
            self.assert_refused(NoWords, [f"drop {number}" for number in above], [desk])

    def test_a_refused_row_leaves_the_words_for_what_comes_behind(self):
        desk = desk_with("text a b c", "order 1 2 0")
        for row in ("text D", "order 0 1", "order 2 1 x", "take 6", "drop 3", "stay 1", "nothing"):
            with self.assertRaises(ValueError):
                desk.say(row)
        self.assertEqual(desk.say("seen"), "b c a")
        self.assertEqual(desk.say("drop 0"), "ok")
        self.assertEqual(desk.say("seen"), "b c")


if __name__ == "__main__":
    unittest.main()
