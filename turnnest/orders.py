"""Orders in which the words of a row are seen."""

from turnnest.errors import NoOrder, NoWords
from turnnest.wholes import are_different_below

MOST_WORDS = 60


def make_order(numbers):
    if not 1 <= len(numbers) <= MOST_WORDS:
        raise NoOrder("an order has 1 to 60 words")
    if not are_different_below(numbers, len(numbers)):
        raise NoOrder("an order has each whole number from 0 to below their number once")
    return tuple(numbers)


def back(order):
    places = [0] * len(order)
    for place, word in enumerate(order):
        places[word] = place
    return tuple(places)


def mirror(order):
    return tuple(reversed(order))


def left_of(order, words):
    must_be_words(words, len(order))
    new_numbers = {}
    for number, word in enumerate(sorted(words)):
        new_numbers[word] = number
    return tuple([new_numbers[word] for word in order if word in new_numbers])


def must_be_words(words, many):
    if len(words) == 0:
        raise NoWords("at least one word is to be left")
    if not are_different_below(words, many):
        raise NoWords("the words left are different numbers of the row's words")


def put_together(order, orders):
    must_fit([len(inner) for inner in orders], len(order))
    firsts = first_numbers(orders)
    together = []
    for word in order:
        together.extend([firsts[word] + number for number in orders[word]])
    return tuple(together)


def must_fit(sizes, many):
    if len(sizes) != many:
        raise NoOrder("there is to be just one for each word")
    if sum(sizes) > MOST_WORDS:
        raise NoOrder("more than 60 words would come")


def first_numbers(orders):
    firsts = []
    words_ahead = 0
    for inner in orders:
        firsts.append(words_ahead)
        words_ahead += len(inner)
    return firsts
