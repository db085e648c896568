"""Turns: stretches of a row that are turned about, and those of a nest."""

from turnnest.errors import NoTurn
from turnnest.nests import count_words, is_of_kind, must_be_nest
from turnnest.wholes import is_whole


def are_nested(turns):
    for number, turn in enumerate(turns):
        for later in turns[number + 1:]:
            if not are_apart(turn, later) and not lies_within(later, turn):
                return False
    return True


def are_apart(turn, other):
    return turn[1] <= other[0] or other[1] <= turn[0]


def lies_within(inner, outer):
    return outer[0] <= inner[0] and inner[1] <= outer[1]


def deepest(turns):
    # Where most turns lie over one place, they do so over the first place of one of them.
    return max([turns_over(turns, turn[0]) for turn in turns], default=0)


def turns_over(turns, place):
    return len([turn for turn in turns if turn[0] <= place < turn[1]])


def done(many, turns):
    for thing in turns:
        if not is_turn(thing, many):
            raise NoTurn("this is no turn of so many words")
    row = list(range(many))
    for turn in turns:
        turned = list(reversed(row[turn[0]:turn[1]]))
        row = row[:turn[0]] + turned + row[turn[1]:]
    return tuple(row)


def is_turn(thing, many):
    if not isinstance(thing, tuple) or len(thing) != 2:
        return False
    # Only whole numbers are compared: other things may answer a comparison as they like.
    if not is_whole(thing[0]) or not is_whole(thing[1]):
        return False
    return 0 <= thing[0] and thing[0] + 2 <= thing[1] <= many


def turns_of(nest):
    must_be_nest(nest)
    turns = knot_turns(nest, 0)
    # What is of kind + as a whole is seen as it comes: nothing is turned about round it.
    if is_of_kind(nest, "+"):
        return turns[1:]
    return turns


def knot_turns(nest, first):
    """The turns of all knots that are no words, for a nest that is seen from place first on."""
    if nest is None:
        return []
    place = first
    inner_turns = []
    for part in seen_parts(nest):
        inner_turns.extend(knot_turns(part, place))
        place += count_words(part)
    return [(first, place)] + inner_turns


def seen_parts(nest):
    if nest[0] == "-":
        return list(reversed(nest[1]))
    return list(nest[1])
