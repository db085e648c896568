"""Whole numbers, and lists of different ones below a bound."""


def is_whole(thing):
    # To Python a truth is an int too; here it numbers nothing.
    return isinstance(thing, int) and not isinstance(thing, bool)


def are_different_below(things, bound):
    met = {}
    for thing in things:
        # Only a whole number is compared and looked up: other things may not bear it.
        if not is_whole(thing) or not 0 <= thing < bound or thing in met:
            return False
        met[thing] = True
    return True
