"""Point 8: nests written and read."""

import itertools
import unittest

from tests.samples import comb, flat, no_nests, no_whole_numbers, refused_as, small_nests
from turnnest.errors import NoNest
from turnnest.nestnotes import read_nest, show_nest

BY_HAND = (
    (None, "."),
    (("+", (None, None)), "(+..)"),
    (("-", (None, None, None)), "(-...)"),
    (("+", (None, ("-", (None, None)), None)), "(+.(-..).)"),
    (("-", (("+", (None, None)), ("+", (None, ("-", (None, None)))))), "(-(+..)(+.(-..)))"),
)

# The signs that a text may hold: from the blank to ~, but the one told apart in point 1.
SIGNS = [chr(code) for code in range(32, 127) if code != 37]


def comb_text(deep):
    """comb(deep), written by hand."""
    kinds = ["+-"[(deep - 1 - level) % 2] for level in range(deep)]
    return "".join("(" + kind + "." for kind in kinds) + "." + ")" * deep


class ShowNestTest(unittest.TestCase):
    def test_by_hand(self):
        for nest, text in BY_HAND:
            self.assertEqual(show_nest(nest), text)

    def test_great_ones(self):
        self.assertEqual(show_nest(flat("+", 60)), "(+" + "." * 60 + ")")
        self.assertEqual(show_nest(comb(59)), comb_text(59))

    def test_what_is_no_nest(self):
        for thing in no_nests():
            refused_as(self, NoNest, show_nest, thing)


class ReadNestTest(unittest.TestCase):
    def assert_refused(self, text):
        with self.subTest(text=text):
            refused_as(self, NoNest, read_nest, text)

    def test_by_hand(self):
        for nest, text in BY_HAND:
            self.assertEqual(read_nest(text), nest)

    def test_there_and_back(self):
        for nest in small_nests(6) + [flat("+", 60), flat("-", 60), comb(59), comb(59, "-")]:
            self.assertEqual(read_nest(show_nest(nest)), nest)
        for deep in range(60):
            self.assertEqual(read_nest(comb_text(deep)), comb(deep))

    def test_every_short_text(self):
        # A knot takes three signs beside its words, so 7 signs write nests of at most 4 words.
        texts = {show_nest(nest): nest for nest in small_nests(6)}
        for length in range(0, 8):
            for signs in itertools.product("(+-.)", repeat=length):
                text = "".join(signs)
                if text in texts:
                    self.assertEqual(read_nest(text), texts[text])
                else:
                    with self.assertRaises(NoNest):
                        read_nest(text)

    def test_signs_left_out_put_in_and_exchanged(self):
        nests = small_nests(4) + [("-", (None, ("+", (flat("-", 2), None)), flat("+", 2)))]
        known = {show_nest(nest): nest for nest in small_nests(8)}
        for text in [show_nest(nest) for nest in nests]:
            for place in range(len(text) + 1):
                changed = [text[:place] + text[place + 1:]]
                changed += [text[:place] + sign + text[place:] for sign in SIGNS]
                changed += [text[:place] + sign + text[place + 1:] for sign in SIGNS]
                changed += [text[:place], text[place:], text[:place] + text]
                for other in changed:
                    if other in known:
                        self.assertEqual(read_nest(other), known[other])
                    else:
                        with self.assertRaises(NoNest):
                            read_nest(other)

    def test_texts_that_write_no_nest(self):
        for text in (
            "", " ", "..", ". ", " .", ".)", ".(", ".+", "(", ")", "+", "-", "()", "(.)", "(..)", "(+)", "(-.)",
            "(+..", "(+..))", "(+..).", ".(+..)", "(+..)(-..)", "(+..) ", " (+..)", "(+. .)", "( +..)", "(+..\n)",
            "(+(+..).)", "(-.(-..))", "(+.(-.(-..)))", "(+(-..))", "(+.(-.))", "(+.(-))", "(*..)", "(+-..)", "(..+)",
            "+(..)", "(+..-)", ")..+(", ")+..(", "[+..]", "(+oo)", "None", "('+', (None, None))", ".(+", ".(+..", "(+.",
            "(+,,)", "(\uff0b..)", "(+\u2024\u2024)",
        ):
            self.assert_refused(text)

    def test_something_behind_the_end(self):
        for nest in small_nests(4):
            for behind in (".", ")", "(", "+", "-", " ", "x", "(+..)", "(+", "\n"):
                self.assert_refused(show_nest(nest) + behind)
                self.assert_refused(behind + show_nest(nest))

    def test_many_marks_opened(self):
        for text in (
            "(" * 2000, "(+" * 1000, "(-" * 1000, "(+(-" * 500, "(+.(-." * 333, ")" * 2000, "." * 2000,
            "(+" * 600 + "." + ")" * 600, "(+(-" * 300 + "." + ")" * 600, "(+." * 400 + "." + ")" * 400,
            "(+.(-." * 200 + "." + ")" * 400, "(+" + "(-..)" * 399 + ")", "(+..)" * 400, "()" * 1000,
            "(+.(-." * 30 + "." + ")" * 60, "(+.(-." * 29 + "." + ")" * 59, "(+.(-." * 29 + "." + ")" * 57,
        ):
            self.assert_refused(text)

    def test_sixty_one_words(self):
        self.assertEqual(read_nest("(+" + "." * 60 + ")"), flat("+", 60))
        for many in (61, 62, 100, 1990):
            self.assert_refused("(+" + "." * many + ")")
            self.assert_refused("(-" + "." * many + ")")
        self.assert_refused("(+(-" + "." * 30 + ")(-" + "." * 31 + "))")
        self.assert_refused(comb_text(60))
        self.assert_refused(comb_text(120))

    def test_what_is_no_text(self):
        for thing in no_nests() + no_whole_numbers() + small_nests(4):
            if not isinstance(thing, str):
                refused_as(self, NoNest, read_nest, thing)
        refused_as(self, NoNest, read_nest, ["."])
        refused_as(self, NoNest, read_nest, list("(+..)"))
        refused_as(self, NoNest, read_nest, b"(+..)")


if __name__ == "__main__":
    unittest.main()
