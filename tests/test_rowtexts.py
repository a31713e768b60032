import copy
import itertools
import random
import unittest

from fewboxes.errors import NoText
from fewboxes.maker import row_for
from fewboxes.rowtexts import read_row, show_row
from helper import (
    ALL_SIGNS, SIDES, assert_refused, big_mixed, bushy, chain, drawn_row, is_row_text, kinds_within, one_sign_off,
    wandering_row,
)

PAIRS = [
    ("", []),
    ("take x 0", [("take", "x", 0)]),
    ("join f 0 1 0", [("join", "f", 0, 1, 0)]),
    ("put 0 3", [("put", 0, 3)]),
    ("fetch 3 1", [("fetch", 3, 1)]),
    ("take abcdefgh 9", [("take", "abcdefgh", 9)]),
    ("join abcdefgh 0 10 9999", [("join", "abcdefgh", 0, 10, 9999)]),
    ("put 9 10", [("put", 9, 10)]),
    ("fetch 9999 0", [("fetch", 9999, 0)]),
    # names that are words of deeds too
    ("take take 10", [("take", "take", 10)]),
    ("join join 1 2 3", [("join", "join", 1, 2, 3)]),
    ("take put 0; join fetch 0 0 0", [("take", "put", 0), ("join", "fetch", 0, 0, 0)]),
    ("take a 0; take b 1; join f 0 1 0; put 0 12; fetch 12 345",
     [("take", "a", 0), ("take", "b", 1), ("join", "f", 0, 1, 0), ("put", 0, 12), ("fetch", 12, 345)]),
    ("put 0 0; put 0 0", [("put", 0, 0), ("put", 0, 0)]),
]
WORDS = ["take", "join", "put", "fetch"]


def many_rows():
    source = random.Random(19)
    rows = [row_for(tree, k) for tree in big_mixed(32) + [bushy(32)] for k in (2, 3, 200)]
    rows += [drawn_row(source, chain(24, side), k, 100) for side in SIDES for k in (2, 200)]
    rows += [wandering_row(source, bushy(32), 200, 100, size) for size in (0, 1, 2, 199, 200)]
    return rows


class ShowRowTest(unittest.TestCase):
    def test_samples(self):
        for text, row in PAIRS:
            self.assertEqual(show_row(row), text)

    def test_numbers(self):
        for number in (0, 1, 9, 10, 11, 99, 100, 101, 999, 1000, 9999):
            self.assertEqual(show_row([("take", "a", number)]), f"take a {number}")
            self.assertEqual(show_row([("join", "f", number, 0, 1)]), f"join f {number} 0 1")
            self.assertEqual(show_row([("join", "f", 0, number, 1)]), f"join f 0 {number} 1")
            self.assertEqual(show_row([("join", "f", 0, 1, number)]), f"join f 0 1 {number}")
            self.assertEqual(show_row([("put", number, 0)]), f"put {number} 0")
            self.assertEqual(show_row([("put", 0, number)]), f"put 0 {number}")
            self.assertEqual(show_row([("fetch", number, 0)]), f"fetch {number} 0")
            self.assertEqual(show_row([("fetch", 0, number)]), f"fetch 0 {number}")

    def test_what_is_shown_is_a_rows_text(self):
        for row in many_rows():
            self.assertTrue(is_row_text(show_row(row)))

    def test_the_row_stays(self):
        for text, row in PAIRS:
            before = copy.deepcopy(row)
            self.assertIs(type(show_row(row)), str)
            self.assertEqual(row, before)


class ReadRowTest(unittest.TestCase):
    def refused(self, text):
        assert_refused(self, NoText, read_row, text)

    def judge(self, text):
        """What is no row's text is refused; and no two texts can be read to the same row."""
        if is_row_text(text):
            self.assertEqual(show_row(read_row(text)), text)
        else:
            self.assertRaises(NoText, read_row, text)

    def test_samples(self):
        for text, row in PAIRS:
            self.assertEqual(read_row(text), row)
            self.assertTrue(is_row_text(text))

    def test_kinds(self):
        for text, row in PAIRS:
            told = read_row(text)
            self.assertIs(type(told), list)
            self.assertEqual([type(deed) for deed in told], [tuple] * len(row))
            self.assertEqual([[type(part) for part in deed] for deed in told],
                             [[type(part) for part in deed] for deed in row])
            self.assertLessEqual(kinds_within(told), {list, tuple, str, int})

    def test_lists_are_the_askers_own(self):
        for text, row in PAIRS:
            told = read_row(text)
            self.assertIsNot(told, read_row(text))
            told.append("scribble")
            self.assertEqual(read_row(text), row)

    def test_what_is_shown_is_read(self):
        for row in many_rows():
            self.assertEqual(read_row(show_row(row)), row)

    def test_every_number_of_four_figures(self):
        for number in range(10000):
            self.assertEqual(read_row(f"put {number} 0; fetch 0 {number}"), [("put", number, 0), ("fetch", 0, number)])

    def test_long_rows(self):
        for row in ([("join", "abcdefgh", 9999, 9999, 9999)] * 200, [("put", 0, 0)] * 200, [("take", "a", 0)] * 250):
            self.assertEqual(read_row(show_row(row)), row)

    def test_blanks(self):
        for text in (
            " ", "  ", " take x 0", "take x 0 ", "take  x 0", "take x  0", "take x0", "takex 0", "takex0",
            "join f 0 10", "join f 0 1 0 ", "join f  0 1 0", "join f 0 1  0", "put 03", "put  0 3", "put 0  3",
            "fetch 31", " fetch 3 1",
        ):
            self.refused(text)

    def test_semicolons(self):
        for text in (
            ";", "; ", " ;", ";;", "; ;", "; ; ", "take x 0;", "take x 0; ", ";take x 0", "; take x 0",
            "take x 0;put 0 3", "take x 0 ;put 0 3", "take x 0 ; put 0 3", "take x 0;  put 0 3",
            "take x 0;; put 0 3", "take x 0; ; put 0 3", "take x 0 put 0 3", "take x 0, put 0 3", "take; x 0",
            "take x; 0", "take x 0; put 0 3;", "take x 0; put 0 3; ", "take x 0\nput 0 3",
        ):
            self.refused(text)

    def test_numbers_that_are_none(self):
        for number in (
            "", "00", "01", "000", "0000", "00000", "007", "0123", "01234", "10000", "12345", "99999", "100000",
            "-0", "-1", "+0", "+1", "1.0", "1.", ".1", "1e3", "0x1", "1_0", "_1", "a", "x", "one", "O", "(1)", "'1'",
            "1-", "--1", "1,2", "9" * 60, "0" * 100, "9" * 1900, "#", "~", "!", "/", ":", "1:", "/1",
        ):
            for text in (
                f"take x {number}", f"join f {number} 1 0", f"join f 0 {number} 0", f"join f 0 1 {number}",
                f"put {number} 3", f"put 0 {number}", f"fetch {number} 1", f"fetch 3 {number}",
            ):
                self.refused(text)
                self.refused(f"take x 0; {text}")
                self.refused(f"{text}; take x 0")

    def test_names_that_are_none(self):
        for name in (
            "", "abcdefghi", "a" * 9, "a" * 100, "a" * 1900, "X", "Abc", "abC", "aBc", "0", "1", "a1", "1a", "a_b",
            "a-b", "-", "a.b", "'a'", "(a)", "f(a", "`", "{", "a{", "@", "[",
        ):
            self.refused(f"take {name} 0")
            self.refused(f"join {name} 0 1 0")
            self.refused(f"put 0 0; take {name} 0; put 0 0")

    def test_words_that_are_no_deeds(self):
        for word in (
            "", "a", "x", "Take", "TAKE", "tak", "takes", "ttake", "Join", "joi", "joins", "Put", "pu", "puts",
            "Fetch", "fetc", "fetches", "move", "leaf", "knot", "name", "number", "not", "held", "least", "0",
            "none", "take,", "(take",
        ):
            for rest in ("", " x 0", " f 0 1 0", " 0 3", " 3 1"):
                if word + rest:
                    self.refused(word + rest)

    def test_deeds_with_the_parts_of_others(self):
        rests = {"take": "x 0", "join": "f 0 1 0", "put": "0 3", "fetch": "3 1"}
        for word, other in itertools.product(WORDS, WORDS):
            if (word in ("put", "fetch")) != (other in ("put", "fetch")) or {word, other} == {"take", "join"}:
                self.refused(f"{word} {rests[other]}")
        for text in (
            "take", "take x", "take 0", "take x 0 1", "take 0 x", "take x y", "take x 0 0 0", "join", "join f",
            "join f 0", "join f 0 1", "join f 0 1 0 1", "join 0 1 0", "join 0 f 1 0", "join f g 0 1 0",
            "join f f 0 1", "put", "put 0", "put 0 3 1", "put x 0", "put 0 x", "fetch", "fetch 3", "fetch 3 1 0",
            "fetch x 0", "fetch 0 x",
        ):
            self.refused(text)

    def test_one_sign_off(self):
        for text in (
            "take x 0", "join f 0 1 0", "put 0 3", "fetch 3 1", "take abcdefgh 9999", "join abcdefgh 10 0 9999",
            "take a 0; take b 1; join f 0 1 0; put 0 12; fetch 12 345",
        ):
            for spoiled in one_sign_off(text, ALL_SIGNS):
                self.judge(spoiled)

    def test_two_signs_off(self):
        text = "take a 0; put 0 12"
        signs = " ;0a"
        for at, other in itertools.combinations(range(len(text)), 2):
            for one, two in itertools.product(["", *signs], repeat=2):
                self.judge(text[:at] + one + text[at + 1:other] + two + text[other + 1:])

    def test_every_short_row_of_pieces(self):
        for size in range(8):
            for pieces in itertools.product(["put", "0", "10", " ", ";"], repeat=size):
                self.judge("".join(pieces))
        for size in range(7):
            for pieces in itertools.product(["take ", "join", "a", "0", " ", "; "], repeat=size):
                self.judge("".join(pieces))

    def test_long_texts(self):
        for piece in (
            " ", ";", "; ", "take x 0; ", "take x 0 ", "take x 0;", "put 0 0; ", "a", "0", "9", "put ", "put 0 ",
            "join f 0 ", "~", "take x ", "fetch 3 1 ; ", "fetch 3 1;; ",
        ):
            for size in (30, 100, 500, 1999, 2000):
                self.judge((piece * size)[:size])
        for size in range(1970, 2001):
            self.judge(("fetch 3 1; " * 200)[:size])

    def test_one_sign_off_in_long_texts(self):
        text = show_row([("join", "abcdefgh", 9999, 10, 0), ("put", 0, 0), ("fetch", 9999, 0), ("take", "a", 10)] * 33)
        self.assertEqual(len(read_row(text)), 132)
        self.assertLess(1900, len(text))
        self.assertLess(len(text), 2000)
        for spoiled in one_sign_off(text, " ;0a"):
            self.judge(spoiled)


class JudgeTest(unittest.TestCase):
    """The other way of asking must itself be right where it is known what is right."""

    def test_row_texts(self):
        for text in ("", "take x 0", "join abcdefgh 9999 10 0; put 0 0; fetch 1 9"):
            self.assertTrue(is_row_text(text))

    def test_other_texts(self):
        for text in (
            " ", "; ", "take x 00", "take x 10000", "take abcdefghi 0", "put 0 0;", "put 0 0;put 0 0", "put 0 0\n",
        ):
            self.assertFalse(is_row_text(text))


if __name__ == "__main__":
    unittest.main()
