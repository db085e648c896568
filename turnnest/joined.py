"""Nests of orders that come of others, told from the nests alone."""

from turnnest.nests import count_words, is_of_kind, must_be_nest, shared_out
from turnnest.orders import must_be_words, must_fit


def back_nest(nest):
    must_be_nest(nest)
    return backed(nest)


def backed(nest):
    if nest is None:
        return None
    parts = [backed(part) for part in nest[1]]
    # The back has places in the stead of words: its parts come as they were seen.
    if nest[0] == "-":
        parts.reverse()
    return (nest[0], tuple(parts))


def mirror_nest(nest):
    must_be_nest(nest)
    return mirrored(nest)


def mirrored(nest):
    if nest is None:
        return None
    kind = "-" if nest[0] == "+" else "+"
    return (kind, tuple([mirrored(part) for part in nest[1]]))


def left_nest(nest, words):
    must_be_nest(nest)
    many = count_words(nest)
    must_be_words(words, many)
    return left_parts(nest, [word in words for word in range(many)])[0]


def left_parts(nest, staying):
    """What is left of a nest as a list of one nest, or of none where no word of it stays."""
    if nest is None:
        return [None] if staying[0] else []
    parts = []
    for part, share in zip(nest[1], shared_out(nest, staying)):
        parts.extend(left_parts(part, share))
    if len(parts) < 2:
        return parts
    return [knot_of(nest[0], parts)]


def knot_of(kind, nests):
    """A knot of nests of whichever kinds: those of its own kind come into it part by part."""
    parts = []
    for nest in nests:
        if is_of_kind(nest, kind):
            parts.extend(nest[1])
        else:
            parts.append(nest)
    return (kind, tuple(parts))


def joined_nest(nest, nests):
    must_be_nest(nest)
    for inner in nests:
        must_be_nest(inner)
    must_fit([count_words(inner) for inner in nests], count_words(nest))
    return filled(nest, nests)


def filled(nest, nests):
    if nest is None:
        return nests[0]
    shares = shared_out(nest, nests)
    return knot_of(nest[0], [filled(part, share) for part, share in zip(nest[1], shares)])
