"""Cuts of an order, and the nest that is seen as it."""

from turnnest.orders import left_of

BARRED = "barred"


def cuts(order):
    rising = []
    falling = []
    least = len(order)
    greatest = -1
    for place in range(1, len(order)):
        least = min(least, order[place - 1])
        greatest = max(greatest, order[place - 1])
        # An order has each number once: so many words ahead are less than all the
        # others just where they are the first numbers, greater where the last ones.
        if greatest == place - 1:
            rising.append(place)
        if least == len(order) - place:
            falling.append(place)
    if rising:
        return ("+", tuple(rising))
    if falling:
        return ("-", tuple(falling))
    return ("", ())


def nest_of(order):
    if len(order) == 1:
        return None
    found = cuts(order)
    if not found[1]:
        return BARRED
    parts = []
    for stretch in stretches(order, found[1]):
        part = nest_of(left_of(order, stretch))
        if part == BARRED:
            return BARRED
        parts.append(part)
    # A nest has its parts in the text's order, and with - the last one is seen first.
    if found[0] == "-":
        parts.reverse()
    return (found[0], tuple(parts))


def stretches(order, places):
    firsts = (0,) + places
    behinds = places + (len(order),)
    return [list(order[first:behind]) for first, behind in zip(firsts, behinds)]
