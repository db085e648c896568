"""Nests: what they are, how they are seen, their words and their depth."""

from turnnest.errors import NoNest
from turnnest.orders import MOST_WORDS, mirror, put_together


def is_nest(thing):
    words = 0
    # A list of what is still to be looked at, in the place of calls within calls,
    # bears things of any depth. Each entry is a thing and the kind it must not have.
    waiting = [(thing, "")]
    while waiting:
        # Whatever waits has at least one word if it is a nest. Stopping by that count
        # also ends soon where one tuple stands many times within another.
        if words + len(waiting) > MOST_WORDS:
            return False
        entry = waiting.pop()
        if entry[0] is None:
            words += 1
        elif is_knot(entry[0]) and entry[0][0] != entry[1]:
            waiting.extend([(part, entry[0][0]) for part in entry[0][1]])
        else:
            return False
    return True


def is_knot(thing):
    if not isinstance(thing, tuple) or len(thing) != 2:
        return False
    # Only a text is compared: other things may answer a comparison as they like.
    if not isinstance(thing[0], str) or thing[0] not in ("+", "-"):
        return False
    return isinstance(thing[1], tuple) and len(thing[1]) >= 2


def must_be_nest(thing):
    if not is_nest(thing):
        raise NoNest("this is no nest")


def is_of_kind(nest, kind):
    return nest is not None and nest[0] == kind


def seen(nest):
    must_be_nest(nest)
    return order_of(nest)


def order_of(nest):
    if nest is None:
        return (0,)
    order = tuple(range(len(nest[1])))
    if nest[0] == "-":
        order = mirror(order)
    return put_together(order, [order_of(part) for part in nest[1]])


def words_of(nest):
    must_be_nest(nest)
    return count_words(nest)


def count_words(nest):
    if nest is None:
        return 1
    return sum([count_words(part) for part in nest[1]])


def shared_out(nest, things):
    """For each part of the nest those things that are its words', of one for each word of the nest."""
    shares = []
    first = 0
    for part in nest[1]:
        behind = first + count_words(part)
        shares.append(things[first:behind])
        first = behind
    return shares


def depth(nest):
    must_be_nest(nest)
    return count_depth(nest)


def count_depth(nest):
    if nest is None:
        return 0
    return 1 + max([count_depth(part) for part in nest[1]])
