"""A desk that keeps one row of words and its order, and is told what to do with it by rows."""

from turnnest.bars import bar_of
from turnnest.cuts import BARRED, nest_of
from turnnest.errors import NoNumber, NoOrder, NoRow, NoWords
from turnnest.marks import must_be_row, write
from turnnest.nestnotes import show_nest
from turnnest.nests import seen
from turnnest.numbers import nest_at, number_of
from turnnest.orders import left_of, make_order
from turnnest.staying import most_staying
from turnnest.turns import turns_of

QUESTIONS = ("seen", "nest", "marks", "turns", "stay", "number")
FIGURES = "0123456789"
MOST_FIGURES = 60
DONE = "ok"


class Desk:
    def __init__(self):
        # A row has at least one word: without any there is no row yet.
        self.words = []
        self.order = ()

    def say(self, row):
        if not isinstance(row, str):
            raise NoRow("a row is a text")
        said = row.split(" ")
        if not has_its_words(said):
            raise NoRow("no row is said so")
        if said[0] == "text":
            return self.begin(said[1:])
        if not self.words:
            raise NoRow("there is no row of words yet")
        if said[0] in QUESTIONS:
            return answer(said[0], self.words, self.order)
        return self.change(said[0], [read_number(text) for text in said[1:]])

    def begin(self, words):
        must_be_row(words)
        self.words = words
        self.order = tuple(range(len(words)))
        return DONE

    def change(self, name, numbers):
        if name == "order":
            self.order = order_for(self.words, numbers)
        elif name == "take":
            self.order = seen(nest_at(len(self.words), numbers[0]))
        else:
            self.drop(numbers[0])
        return DONE

    def drop(self, dropped):
        if dropped >= len(self.words):
            raise NoWords("no word has this number")
        left = [number for number in range(len(self.words)) if number != dropped]
        # The order first: it is refused where no word is left, and then nothing is to change.
        self.order = left_of(self.order, left)
        self.words = [self.words[number] for number in left]


def has_its_words(said):
    if said[0] in ("text", "order"):
        return len(said) >= 2
    if said[0] in ("take", "drop"):
        return len(said) == 2
    return said[0] in QUESTIONS and len(said) == 1


def read_number(text):
    if not 1 <= len(text) <= MOST_FIGURES or not all([sign in FIGURES for sign in text]):
        raise NoNumber("a number is written by one to sixty figures")
    if text[0] == "0" and text != "0":
        raise NoNumber("no 0 stands ahead of a number")
    return int(text)


def order_for(words, numbers):
    if len(numbers) != len(words):
        raise NoOrder("there is to be one number for each word")
    return make_order(numbers)


def answer(name, words, order):
    if name == "seen":
        return " ".join([words[number] for number in order])
    if name == "stay":
        return in_a_row(most_staying(order))
    nest = nest_of(order)
    if nest == BARRED:
        return barred_answer(name, order)
    if name == "nest":
        return show_nest(nest)
    if name == "marks":
        return write(words, nest)
    if name == "turns":
        return str(len(turns_of(nest)))
    return str(number_of(nest))


def barred_answer(name, order):
    if name == "nest":
        return BARRED + " " + in_a_row(bar_of(order))
    return BARRED


def in_a_row(numbers):
    return " ".join([str(number) for number in numbers])
