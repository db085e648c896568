"""Bars: four places of an order for which it has no nest."""

from turnnest.orders import left_of, mirror

BARS = ((1, 3, 0, 2), (2, 0, 3, 1))


def is_bar(order, places):
    # Places below 0 would be taken from the other end of the order.
    if not 0 <= places[0] < places[1] < places[2] < places[3] < len(order):
        return False
    return left_of(order, [order[place] for place in places]) in BARS


def bar_of(order):
    places = falling_bar(order)
    if places is not None:
        return places
    # c a d b is b d a c seen from the other side.
    mirrored = falling_bar(mirror(order))
    if mirrored is None:
        return None
    last = len(order) - 1
    return tuple([last - place for place in reversed(mirrored)])


def falling_bar(order):
    """A bar seen as b d a c, whose middle falls, or None."""
    for second in range(1, len(order) - 2):
        for third in range(second + 1, len(order) - 1):
            places = bar_around(order, second, third)
            if places is not None:
                return places
    return None


def bar_around(order, second, third):
    least = order[third]
    greatest = order[second]
    ahead = [place for place in range(second) if least < order[place] < greatest]
    behind = [place for place in range(third + 1, len(order)) if least < order[place] < greatest]
    if not ahead or not behind:
        return None
    # If any b and c will do, then the least b and the greatest c.
    first = min(ahead, key=lambda place: order[place])
    fourth = max(behind, key=lambda place: order[place])
    if order[first] < order[fourth]:
        return (first, second, third, fourth)
    return None
