"""What several tests share: things of all kinds, small orders and nests, refusals."""

import functools
import itertools
import random

from turnnest import errors

REFUSALS = (
    errors.NoOrder, errors.NoWords, errors.NoNest, errors.NoTurn,
    errors.NoNumber, errors.TooMany, errors.NoText, errors.NoRow,
)


class Prickly:
    """Raises when compared, hashed or measured: it is to be told apart by its kind alone."""

    def __eq__(self, other):
        raise RuntimeError("compared")

    __lt__ = __le__ = __gt__ = __ge__ = __eq__

    def __hash__(self):
        raise RuntimeError("hashed")

    def __len__(self):
        raise RuntimeError("measured")


class Pleaser:
    """Is equal to everything."""

    def __eq__(self, other):
        return True

    def __hash__(self):
        return 0


def no_whole_numbers():
    return [
        True, False, None, "", "0", "1", "+", ".", 0.0, 1.0, float("nan"), float("inf"), 1j, b"", b"0",
        [], [0], (), (0,), {}, {0: 0}, set(), {0}, frozenset(), range(1), object(), int, len,
        Prickly(), Pleaser(), [Prickly()], (Pleaser(),),
    ]


GREAT = 10 ** 699 + 7

# Signs and texts that make no word, by themselves or within one.
NO_WORDS = (
    "", "A", "Z", "aB", "Abc", "abcdefghi", "123456789", "a" * 400, "-1", "+", "-", ".", "(", ")", "a.", "a,b", "a_b",
    "_", "a-b", "!", "a!", "~", "a/b", "a\\b", "'", '"', "`", "@", "[", "{", "|", ":", ";", "=", "?", "*", "#", "$",
    "&", "^", "%", "a%", "\n", "a\n", "\na", "\t", "a\tb", "\x00", "\x7f", "\xa0", "a\xa0b", "\u2003", "\xe4",
    "\xdf", "\u0131", "\xaa", "\xb2", "\u0663", "\u2460", "\uff41", "\u4e00", "\U0001d7d9", "a\u0301",
    "<a", "a>", "<a>", "a<", ">a", "<<", ">>", "<>", "><", "<b", "a<b",
)


def orders_of(many):
    return list(itertools.permutations(range(many)))


def small_orders(most):
    return [order for many in range(1, most + 1) for order in orders_of(many)]


def splits(many, least_parts):
    """All rows of at least so many numbers above 0 whose sum is many."""
    if many == 0:
        return [()] if least_parts <= 0 else []
    return [
        (first,) + rest
        for first in range(1, many + 1)
        for rest in splits(many - first, least_parts - 1)
    ]


@functools.lru_cache(maxsize=None)
def knots_of_kind(many, kind):
    """All nests of so many words that may stand within one of the other kind."""
    if many == 1:
        return (None,)
    other = "-" if kind == "+" else "+"
    found = []
    for split in splits(many, 2):
        choices = [knots_of_kind(words, other) for words in split]
        found.extend((kind, parts) for parts in itertools.product(*choices))
    return tuple(found)


def nests_of(many):
    if many == 1:
        return [None]
    return list(knots_of_kind(many, "+")) + list(knots_of_kind(many, "-"))


def small_nests(most):
    return [nest for many in range(1, most + 1) for nest in nests_of(many)]


def comb(deep, last_kind="+"):
    """A nest as deep as told, with one word more than that."""
    nest = None
    kind = last_kind
    for _ in range(deep):
        nest = (kind, (None, nest))
        kind = "-" if kind == "+" else "+"
    return nest


def flat(kind, many):
    return (kind, (None,) * many)


def other_kind(kind):
    return "-" if kind == "+" else "+"


def mixed_knot(chance, many, kind):
    """A nest of so many words by chance, of the kind told if it is no word."""
    if many == 1:
        return None
    behinds = sorted(chance.sample(range(1, many), chance.randint(1, min(4, many - 1)))) + [many]
    firsts = [0] + behinds[:-1]
    sizes = [behind - first for first, behind in zip(firsts, behinds)]
    return (kind, tuple(mixed_knot(chance, size, other_kind(kind)) for size in sizes))


def great_nests():
    """Many different nests of 7 to 60 words, the same ones each time."""
    chance = random.Random(2026)
    nests = []
    for many in list(range(7, 61)) + [60] * 40:
        nests.extend(mixed_knot(chance, many, kind) for kind in "+-")
    for many in (7, 30, 59, 60):
        for kind in "+-":
            nests.extend([flat(kind, many), comb(many - 1, kind), left_comb(many - 1, kind)])
            nests.append((kind, (flat(other_kind(kind), many - 3), flat(other_kind(kind), 3))))
            nests.append((kind, (None, flat(other_kind(kind), many - 2), None)))
    nests.extend((kind, (flat(other_kind(kind), 2),) * 30) for kind in "+-")
    return nests


def left_comb(deep, last_kind="+"):
    nest = None
    kind = last_kind
    for _ in range(deep):
        nest = (kind, (nest, None))
        kind = other_kind(kind)
    return nest


def no_nests():
    pair = ("+", (None, None))
    wordy = ("+", (None,) * 61)
    doubled = None
    for level in range(120):
        doubled = ("+-"[level % 2], (doubled, doubled))
    broken_doubled = 0
    for level in range(120):
        broken_doubled = ("+-"[level % 2], (broken_doubled, broken_doubled))
    deep_tuple, deep_list, deep_dict, deep_knot = (), [], {}, None
    for _ in range(119):
        deep_tuple, deep_list, deep_dict = (deep_tuple,), [deep_list], {"+": deep_dict}
        deep_knot = ("+", (deep_knot,))
    own_list = []
    own_list.append(own_list)
    return [
        # other kinds of things
        True, False, 0, 1, -1, GREAT, 0.5, float("nan"), 1j, b"+", "", ".", "+", "-", "None", "(+..)",
        [], [None], [None, None], ["+", (None, None)], {}, {"+": (None, None)}, set(), frozenset(),
        range(2), object(), tuple, Prickly(), Pleaser(),
        # tuples of another length
        (), (None,), ("+",), ("-",), (None, None, None), ("+", None, None), ("+", (None, None), None),
        ("+", (None, None), ()), ((None, None),), (("+", (None, None)),), ("+", (None, None), "-"),
        # other kinds in a knot
        ("", (None, None)), ("*", (None, None)), ("++", (None, None)), ("+-", (None, None)),
        (" +", (None, None)), (None, (None, None)), (True, (None, None)), (0, (None, None)),
        (1, (None, None)), (["+"], (None, None)), (("+",), (None, None)), ({"+": 1}, (None, None)),
        (b"+", (None, None)), (Prickly(), (None, None)), (Pleaser(), (None, None)), ((None, None), "+"),
        # parts that are no tuple, or too few
        ("+", ()), ("+", (None,)), ("-", ()), ("-", (None,)), ("+", [None, None]), ("+", None), ("+", ".."),
        ("+", 2), ("+", {0: None, 1: None}), ("+", True), ("+", {None}), ("+", range(2)), ("+", Prickly()),
        ("+", (("-", (None, None)),)), ("+", []), ("+", "-"), ("+", "+"),
        # a part of the knot's own kind
        ("+", (pair, None)), ("+", (None, pair)), ("+", (None, None, pair)),
        ("-", (flat("-", 2), None)), ("-", (None, flat("-", 3), None)),
        ("+", (("-", (None, flat("-", 2))), None)), ("-", (None, ("+", (flat("-", 2), flat("+", 2))))),
        # parts that are no nests
        ("+", (None, ())), ("+", (None, [])), ("+", (None, "")), ("+", (None, ".")), ("+", (0, 1)),
        ("+", (None, True)), ("+", (None, False)), ("+", (None, {})), ("-", (None, ["+", (None, None)])),
        ("+", (None, ("-", [None, None]))), ("+", (None, ("-", (None,)))), ("+", (None, ("-", ()))),
        ("+", (Prickly(), None)), ("-", (None, Pleaser())), ("+", (None, ("*", (None, None)))),
        # too many words
        wordy, flat("-", 61), flat("+", 400), comb(60), comb(60, "-"), comb(100), comb(120),
        ("+", (flat("-", 30), flat("-", 31))), ("-", (None, flat("+", 59), None)),
        # deep ones
        deep_tuple, deep_list, deep_dict, deep_knot, doubled, broken_doubled, own_list, ("+", (None, own_list)),
    ]


def refused_as(case, refusal, asked, *handed):
    """The call is refused by its own class, TurnError and ValueError, and by none of the others."""
    with case.assertRaises(errors.TurnError) as taken:
        asked(*handed)
    case.assertIs(type(taken.exception), refusal)
    case.assertIsInstance(taken.exception, ValueError)
    for other in REFUSALS:
        case.assertEqual(isinstance(taken.exception, other), other is refusal)
