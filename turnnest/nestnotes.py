"""Nests written as texts, and read from them."""

from turnnest.errors import NoNest
from turnnest.nests import is_nest, must_be_nest


def show_nest(nest):
    must_be_nest(nest)
    return written(nest)


def written(nest):
    if nest is None:
        return "."
    return "(" + nest[0] + "".join([written(part) for part in nest[1]]) + ")"


def read_nest(text):
    if not isinstance(text, str):
        raise NoNest("a nest is read from a text")
    # Lists of what is open, in the place of calls within calls: a text may open
    # far more knots than any nest has.
    open_kinds = []
    open_parts = [[]]
    place = 0
    while place < len(text):
        opening = text[place:place + 2]
        if opening in ("(+", "(-"):
            open_kinds.append(opening[1])
            open_parts.append([])
            place += 2
        elif text[place] == ".":
            open_parts[-1].append(None)
            place += 1
        elif text[place] == ")" and open_kinds:
            knot = (open_kinds.pop(), tuple(open_parts.pop()))
            open_parts[-1].append(knot)
            place += 1
        else:
            raise NoNest("a sign stands where none such can stand")
    # With a knot left open the outermost list may hold one nest and still be no end.
    if open_kinds:
        raise NoNest("a knot is not closed")
    return only_nest(open_parts[0])


def only_nest(things):
    if len(things) != 1 or not is_nest(things[0]):
        raise NoNest("the text writes no nest")
    return things[0]
