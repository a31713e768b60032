import itertools
import unittest

from fewboxes.errors import FewError, NoDeed, NoName, NoText, NotHeld, TooBig, TooFew, Twice
from fewboxes.texts import read, show
from helper import ALL_SIGNS, SIDES, bushy, chain, is_formula_text, knot, leaf, numbered_name, one_sign_off, shapes

PAIRS = [
    ("a", leaf("a")),
    ("abcdefgh", leaf("abcdefgh")),
    ("leaf", leaf("leaf")),
    ("f(a b)", knot("f", leaf("a"), leaf("b"))),
    ("a(b a)", knot("a", leaf("b"), leaf("a"))),
    ("f(g(a b) c)", knot("f", knot("g", leaf("a"), leaf("b")), leaf("c"))),
    ("f(a g(b c))", knot("f", leaf("a"), knot("g", leaf("b"), leaf("c")))),
    ("plus(times(a b) times(c d))",
     knot("plus", knot("times", leaf("a"), leaf("b")), knot("times", leaf("c"), leaf("d")))),
    ("knotknot(leafleaf abcdefgh)", knot("knotknot", leaf("leafleaf"), leaf("abcdefgh"))),
]


class ShowTest(unittest.TestCase):
    def test_samples(self):
        for text, tree in PAIRS:
            self.assertEqual(show(tree), text)

    def test_the_biggest(self):
        self.assertEqual(show(chain(4, "left")), "f(f(f(aa ab) ac) ad)")
        self.assertEqual(show(chain(4, "right")), "f(ad f(ac f(ab aa)))")
        self.assertTrue(show(chain(24, "left")).startswith("f(" * 23 + "aa ab)"))
        self.assertEqual(show(bushy(32)).count("("), 31)


class ReadTest(unittest.TestCase):
    def refused(self, text):
        try:
            tree = read(text)
        except FewError as error:
            self.assertIsInstance(error, NoText, text)
            self.assertNotIsInstance(error, (NoName, Twice, TooBig, TooFew, NoDeed, NotHeld))
            self.assertIsInstance(error, ValueError)
        else:
            self.fail(f"{text!r} was read to {tree!r}")

    def test_samples(self):
        for text, tree in PAIRS:
            self.assertEqual(read(text), tree)

    def test_what_is_shown_is_read(self):
        trees = [tree for many in range(1, 8) for tree in shapes(many)]
        trees += [bushy(many) for many in range(1, 33)]
        trees += [chain(deep, side) for deep in range(1, 25) for side in SIDES]
        for tree in trees:
            self.assertEqual(read(show(tree)), tree)

    def test_no_signs(self):
        self.refused("")

    def test_blanks(self):
        for text in (
            " ", "  ", " a", "a ", " f(a b)", "f(a b) ", "f(a  b)", "f( a b)", "f(a b )", "f (a b)", "f(ab)",
            "f(a g(b c) )", "f(g(a b)c)", "f(g(a b)  c)", "f(a g (b c))", "f(a\tb)", "f(a\nb)", "a\n", "a b",
            "f(a b c)",
        ):
            self.refused(text)

    def test_brackets(self):
        for text in (
            "(", ")", "()", "( )", "a(", "a)", "(a", "(a)", "f()", "f( )", "f(a)", "f(a )", "f( a)", "f(a b", "fa b)",
            "f(a b))", "f((a b)", "f((a b))", "(a b)", "((a b) c)", "f(a (b c))", "f((a b) c)", "f(g(a b) c",
            "f(a g(b c)", "f(a b)(", "f(a b)()", "f[a b]", "f(a,b)", "(f a b)", "f(a b)(c d)", "f(a(b c)",
        ):
            self.refused(text)

    def test_signs_behind_the_end(self):
        for text, tree in PAIRS:
            for sign in "( );,.A0~-":
                self.refused(text + sign)
        for behind in ("c", " c", "g(c d)", " g(c d)", "f(a b)", ")c", "))"):
            self.refused("f(a b)" + behind)

    def test_names(self):
        for wrong in ("", "A", "aB", "Ab", "a1", "1", "a_b", "a-b", "ninesigns", "abcdefghi", "'a'", "a;", "%", "~"):
            self.refused(wrong)
            self.refused(f"{wrong}(a b)")
            self.refused(f"f({wrong} b)")
            self.refused(f"f(a {wrong})")
            self.refused(f"f(g(a {wrong}) b)")

    def test_leaves_called_alike(self):
        for text in ("f(a a)", "f(g(a b) a)", "f(a g(b a))", "f(g(a b) h(c b))", "a(b b)"):
            self.refused(text)

    def test_how_many_leaves(self):
        self.assertEqual(read(show(bushy(32))), bushy(32))
        for many in (33, 34, 64, 100, 200):
            self.refused(show(bushy(many)))

    def test_how_deep(self):
        for side in SIDES:
            self.assertEqual(read(show(chain(24, side))), chain(24, side))
            for deep in (25, 26, 60, 200):
                self.refused(show(chain(deep, side)))

    def test_long_texts(self):
        for piece in (
            "(", ")", " ", "a", "f(", "a(", "()", "f(a ", "a)", "f(a b)", "f(a b) ", "(a b)", "~", "a ", " a", "A(",
            "f((", "f(f(a b) ", "f((a b) ", ") ", "( ", "f( ",
        ):
            for size in (30, 100, 500, 1000, 1999, 2000):
                self.refused((piece * size)[:size])

    def test_hundreds_of_brackets_that_fit(self):
        for many in (24, 25, 100, 249, 330):
            self.refused("f(" * many + "a" + " b)" * many)
            self.refused("f(a " * many + "b" + ")" * many)
            self.refused("(" * many + "a" + ")" * many)
            self.refused("f(" * many + "a b" + ")" * many)
        # every leaf has another name, and no text has more than 2000 signs
        others = "".join(f" {numbered_name(number)})" for number in range(285))
        self.refused("f(" * 285 + "a" + others)

    def test_every_short_text(self):
        # all texts of at most seven signs over five of them, and just those formulas that fit in
        given = {}
        for size in range(1, 8):
            for signs in itertools.product("ab", repeat=size):
                given["".join(signs)] = leaf("".join(signs))
        for f, x, y in itertools.product(["a", "b", "aa", "ab", "ba", "bb"], repeat=3):
            if x != y and len(f + x + y) <= 4:
                given[f"{f}({x} {y})"] = knot(f, leaf(x), leaf(y))
        for size in range(0, 8):
            for signs in itertools.product("ab( )", repeat=size):
                text = "".join(signs)
                if text in given:
                    self.assertEqual(read(text), given[text])
                else:
                    self.refused(text)

    def test_one_sign_off(self):
        for text in ("abcdefgh", "f(g(a b) cc)", "ff(a g(b h(c ffffffff)))", "p(q(a b) r(c d))"):
            for spoiled in one_sign_off(text, ALL_SIGNS):
                self.judge(spoiled)

    def test_one_sign_off_at_the_bounds(self):
        for tree in [bushy(32), bushy(33)] + [chain(deep, side) for deep in (24, 25) for side in SIDES]:
            for spoiled in one_sign_off(show(tree), "az( )"):
                self.judge(spoiled)

    def judge(self, text):
        if is_formula_text(text):
            self.assertEqual(show(read(text)), text)
        else:
            self.refused(text)


class JudgeTest(unittest.TestCase):
    """The other way of asking must itself be right where it is known what is right."""

    def test_formula_texts(self):
        for text, tree in PAIRS:
            self.assertTrue(is_formula_text(text))
        for tree in [bushy(32)] + [chain(24, side) for side in SIDES]:
            self.assertTrue(is_formula_text(show(tree)))

    def test_other_texts(self):
        for text in ("", "#", "f(a a)", "f(a b) ", "f(a b", "abcdefghi", "abcdefghi(a b)", "f(a abcdefghi)", "(a b)"):
            self.assertFalse(is_formula_text(text))
        for tree in [bushy(33)] + [chain(25, side) for side in SIDES]:
            self.assertFalse(is_formula_text(show(tree)))


if __name__ == "__main__":
    unittest.main()
