"""How many nests there are, and their numbers."""

from turnnest.errors import NoNumber
from turnnest.nests import count_words, is_of_kind, must_be_nest


def how_many(many):
    return count_rows(kind_counts(many), many)


def of_kind(many):
    return kind_counts(many)[many]


def kind_counts(many):
    """For each number of words up to many, how many nests of one kind there are."""
    counts = [0, 0]
    for words in range(2, many + 1):
        counts.append(sum([count_with_first(counts, words, first) for first in range(1, words)]))
    return counts


def count_parts(counts, words):
    """How many nests of so many words may be one part of a nest of a kind."""
    return 1 if words == 1 else counts[words]


def count_rows(counts, words):
    """How many rows of one or more parts have so many words in all."""
    # Several parts are as many as the nests of a kind: these are rows of several parts.
    return count_parts(counts, words) + counts[words]


def count_with_first(counts, words, first):
    """How many rows of several parts, of so many words in all, have so many in the first part."""
    return count_parts(counts, first) * count_rows(counts, words - first)


def number_of(nest):
    must_be_nest(nest)
    many = count_words(nest)
    counts = kind_counts(many)
    number = number_in_kind(counts, nest)
    if is_of_kind(nest, "-"):
        return counts[many] + number
    return number


def number_in_kind(counts, nest):
    if nest is None:
        return 0
    number = 0
    words = count_words(nest)
    for place, part in enumerate(nest[1][:-1]):
        # Behind a part, one part alone comes ahead of several.
        if place > 0:
            number += count_parts(counts, words)
        first = count_words(part)
        number += sum([count_with_first(counts, words, fewer) for fewer in range(1, first)])
        words -= first
        number += number_in_kind(counts, part) * count_rows(counts, words)
    return number + number_in_kind(counts, nest[1][-1])


def nest_at(many, number):
    counts = kind_counts(many)
    if not 0 <= number < count_rows(counts, many):
        raise NoNumber("no nest of so many words has this number")
    if number < counts[many]:
        return part_at(counts, "+", many, number)
    # A word is of no kind: the one nest of one word comes here too, with its number 0.
    return part_at(counts, "-", many, number - counts[many])


def part_at(counts, kind, words, number):
    if words == 1:
        return None
    parts = []
    other = "-" if kind == "+" else "+"
    while True:
        first = 1
        while number >= count_with_first(counts, words, first):
            number -= count_with_first(counts, words, first)
            first += 1
        words -= first
        rows = count_rows(counts, words)
        parts.append(part_at(counts, other, first, number // rows))
        number = number % rows
        if number < count_parts(counts, words):
            parts.append(part_at(counts, other, words, number))
            return (kind, tuple(parts))
        number -= count_parts(counts, words)
