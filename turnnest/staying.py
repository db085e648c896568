"""The most words of an order that may stay, so that what is left has a nest."""

from turnnest.bars import bar_of
from turnnest.errors import TooMany
from turnnest.orders import left_of

MOST_SEARCHED = 12


def most_staying(order):
    if len(order) > MOST_SEARCHED:
        raise TooMany("the words that may stay are told of at most 12 words")
    choices = [tuple(range(len(order)))]
    while True:
        fewer = {}
        for words in choices:
            barring = barring_words(order, words)
            if not barring:
                return list(words)
            # Whatever has a nest lacks one of the bar's words: going on without each
            # of them in turn, one word fewer at a time, passes over no greater list.
            for word in barring:
                fewer[without(words, word)] = True
        choices = list(fewer)


def barring_words(order, words):
    """The words at a bar of what is left for some words; none where that has a nest."""
    left = left_of(order, list(words))
    places = bar_of(left)
    if places is None:
        return []
    return [words[left[place]] for place in places]


def without(words, dropped):
    return tuple([word for word in words if word != dropped])
