"""Marked texts: words, with marks around those that are turned about."""

from turnnest.errors import NoText
from turnnest.nests import count_words, is_of_kind, must_be_nest, shared_out
from turnnest.orders import MOST_WORDS

WORD_SIGNS = "abcdefghijklmnopqrstuvwxyz0123456789"
MOST_SIGNS = 8


def is_word(thing):
    if not isinstance(thing, str) or not 1 <= len(thing) <= MOST_SIGNS:
        return False
    return all([sign in WORD_SIGNS for sign in thing])


def must_be_row(words):
    if not 1 <= len(words) <= MOST_WORDS:
        raise NoText("a row has 1 to 60 words")
    if not all([is_word(word) for word in words]):
        raise NoText("a word has one to eight small letters or figures")


def seen_words(text):
    row = []
    # How many words stand ahead of each pair that is still open.
    firsts = []
    for piece in text.split(" "):
        if piece == "<":
            firsts.append(len(row))
        elif piece == ">":
            if not firsts:
                raise NoText("a mark closes where none is open")
            row = turned_from(row, firsts.pop())
        else:
            row.append(piece)
    if firsts:
        raise NoText("a mark is not closed")
    must_be_row(row)
    return row


def turned_from(row, first):
    if len(row) < first + 2:
        raise NoText("there are at least two words within a pair of marks")
    # Turning the inner pairs first, where they stand in the text, comes to the same as
    # turning the outer ones first and the inner ones where their words are seen then.
    return row[:first] + list(reversed(row[first:]))


def write(words, nest):
    must_be_nest(nest)
    if len(words) != count_words(nest):
        raise NoText("there is to be one word for each of the nest's")
    must_be_row(words)
    pieces = marked(nest, words)
    # What is of kind + as a whole is seen as it comes: no marks stand round it.
    if is_of_kind(nest, "+"):
        pieces = pieces[1:-1]
    return " ".join(pieces)


def marked(nest, words):
    if nest is None:
        return [words[0]]
    pieces = ["<"]
    for part, share in zip(nest[1], shared_out(nest, words)):
        pieces.extend(marked(part, share))
    return pieces + [">"]
