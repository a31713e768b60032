import random
import re
import unittest

from fewboxes.desk import judge
from fewboxes.errors import NoDeed, NoText, TooFew
from fewboxes.maker import row_for
from fewboxes.ranks import least, rank
from fewboxes.rowtexts import show_row
from fewboxes.texts import show
from helper import (
    BIG, SIDES, PlainMachine, assert_refused, big_mixed, bushy, chain, drawn_row, figures, shapes, wandering_row,
)

FORMULA = "f(g(a b) g(c d))"
HALVES = ["take a 0; take b 1; join g 0 1 0", "take c 0; take d 1; join g 0 1 1"]
# the least figures on two boxes, and what the same row has too much on three
ROW = f"{HALVES[0]}; put 0 0; {HALVES[1]}; fetch 0 0; join f 0 1 0"
NO_FORMULAS = ["", " ", "f(a a)", "f(a b) ", "f(a  b)", "F(a b)", "abcdefghi", "f(a b", "take a 0", "(" * 2000]
NO_ROWS = [" ", ";", "take a 0;", "take a 0; ", "take a 00", "take a 10000", "take a -1", "take a", "f(a b)", "0" * 999]
# deeds that are refused on one box and on two, the first ones on all numbers of boxes
NO_DEEDS = ["put 0 100", "fetch 100 0", "put 0 9999", "fetch 9999 0"]
NO_BOXES = ["take a 2", "join f 2 0 0", "join f 0 2 0", "join f 0 0 2", "put 2 0", "fetch 0 2", "take zzz 9999"]
FEW = [0, -1, -2, -100, -(10 ** 59), -BIG]
GREAT = [10 ** 59, BIG]


class ToldTest(unittest.TestCase):
    def test_not_held(self):
        for row in ("", "take a 0", HALVES[0], ROW.replace("join f 0 1 0", "join f 1 0 0"), ROW + "; take a 0",
                    ROW + "; put 0 5; fetch 6 0", ROW.replace("put 0 0", "put 0 1"), ROW.replace("take d", "take e")):
            for k in (2, 3, 200):
                self.assertEqual(judge(FORMULA, k, row), "not held")

    def test_held_before_and_on_the_shelf_alone(self):
        self.assertEqual(judge("a", 1, "take a 0; take b 0"), "not held")
        self.assertEqual(judge("a", 1, "take a 0; put 0 0; take b 0"), "not held")
        self.assertEqual(judge("a", 1, "take a 0; put 0 0; take b 0; fetch 0 0"), "held 1 0 1 1")

    def test_least(self):
        self.assertEqual(judge(FORMULA, 2, ROW), "least")
        self.assertEqual(judge("f(a b)", 2, "take b 0; take a 1; join f 1 0 1"), "least")
        self.assertEqual(judge("a", 2, "take a 1"), "least")
        self.assertEqual(judge("f(a g(b c))", 3, "take a 2; take b 0; take c 1; join g 0 1 0; join f 2 0 2"), "least")

    def test_held_in_another_box_and_in_two(self):
        self.assertEqual(judge("a", 3, "take a 2"), "least")
        self.assertEqual(judge("a", 3, "take a 2; take a 0"), "held 1 0 0 0")
        self.assertEqual(judge("a", 200, "take a 199"), "least")

    def test_held_with_each_of_the_four_numbers(self):
        self.assertEqual(judge(FORMULA, 2, "take a 0; " + ROW), "held 1 0 0 0")
        self.assertEqual(judge(FORMULA, 2, "join f 0 0 0; " + ROW), "held 0 1 0 0")
        self.assertEqual(judge(FORMULA, 2, "put 0 99; " + ROW), "held 0 0 1 0")
        self.assertEqual(judge(FORMULA, 2, "fetch 99 1; " + ROW), "held 0 0 0 1")
        self.assertEqual(judge(FORMULA, 2, "put 0 1; put 0 0; fetch 1 1; " + ROW), "held 0 0 2 1")
        self.assertEqual(judge(FORMULA, 2, "take zzz 0; " * 3 + "join z 0 1 1; " * 12 + ROW), "held 3 12 0 0")
        self.assertEqual(judge(FORMULA, 2, f"{ROW}; {ROW}"), "held 4 3 1 1")

    def test_the_same_row_on_more_boxes(self):
        for k in (3, 4, 200):
            self.assertEqual(judge(FORMULA, k, ROW), "held 0 0 1 1")

    def test_told_rows(self):
        trees = [tree for many in range(1, 6) for tree in shapes(many)]
        for tree in trees + big_mixed(32) + [bushy(32)] + [chain(24, side) for side in SIDES]:
            for k in range(2, rank(tree) + 2):
                row = show_row(row_for(tree, k))
                self.assertEqual(judge(show(tree), k, row), "least")
                self.assertEqual(judge(show(tree), k, f"put 1 99; fetch 98 0; fetch 97 1; {row}"), "held 0 0 1 2")
                if tree[0] == "knot":
                    self.assertEqual(judge(show(tree), k, row.rpartition("; ")[0]), "not held")

    def test_asked_another_way(self):
        source = random.Random(20)
        for tree in big_mixed(64) + big_mixed(32, 7) + [tree for many in range(1, 5) for tree in shapes(many)]:
            k = source.randrange(2, rank(tree) + 3)
            for row in (
                drawn_row(source, tree, k, 100), drawn_row(source, tree, k, 100)[1:],
                wandering_row(source, tree, k, 2, source.randrange(80)),
            ):
                told = judge(show(tree), k, show_row(row))
                if () not in PlainMachine(tree).moments(k, 100, row)[-1][0]:
                    self.assertEqual(told, "not held")
                elif figures(row) == least(tree, k):
                    self.assertEqual(told, "least")
                else:
                    self.assertTrue(re.fullmatch("held [0-9]+ [0-9]+ [0-9]+ [0-9]+", told), told)
                    more = [int(word) for word in told.split(" ")[1:]]
                    self.assertEqual([need + one for need, one in zip(least(tree, k), more)], list(figures(row)))

    def test_one_box_and_a_leaf(self):
        self.assertEqual(judge("a", 1, "take a 0"), "least")
        self.assertEqual(judge("a", 1, ""), "not held")
        self.assertEqual(judge("a", 1, "take b 0"), "not held")
        self.assertEqual(judge("a", 1, "take a 0; put 0 99"), "held 0 0 1 0")
        self.assertEqual(judge("a", 1, "join a 0 0 0; take a 0"), "held 0 1 0 0")

    def test_the_last_shelf_place(self):
        self.assertEqual(judge("a", 1, "take a 0; put 0 99; fetch 99 0"), "held 0 0 1 1")
        row = ROW.replace("put 0 0", "put 0 99").replace("fetch 0 0", "fetch 99 0")
        self.assertEqual(judge(FORMULA, 2, row), "least")

    def test_far_more_boxes(self):
        for k in GREAT:
            self.assertEqual(judge("a", k, "take a 9999"), "least")
            self.assertEqual(judge("a", k, "take b 9999"), "not held")
            self.assertEqual(judge(FORMULA, k, ROW), "held 0 0 1 1")

    def test_kind_and_the_same_each_time(self):
        for row in ("", ROW, ROW + "; put 0 0"):
            self.assertIs(type(judge(FORMULA, 2, row)), str)
            self.assertEqual(judge(FORMULA, 2, row), judge(FORMULA, 2, row))


class RefusedTest(unittest.TestCase):
    def refused(self, kind, text, k, rowtext):
        assert_refused(self, kind, judge, text, k, rowtext)

    def test_the_formulas_text_ahead_of_all_else(self):
        for text in NO_FORMULAS:
            for k in [1, 2, 200] + FEW + GREAT:
                for row in ["", "take a 0", ROW] + NO_ROWS + NO_DEEDS + NO_BOXES:
                    self.refused(NoText, text, k, row)

    def test_the_rows_text_ahead_of_few_boxes_and_of_deeds(self):
        for row in NO_ROWS + [f"{NO_DEEDS[0]}; {row}" for row in NO_ROWS]:
            for text in ("a", FORMULA, show(bushy(32))):
                for k in [1, 2, 200] + FEW + GREAT:
                    self.refused(NoText, text, k, row)

    def test_few_boxes_ahead_of_deeds(self):
        for row in ["", "take a 0", ROW] + NO_DEEDS + NO_BOXES + [f"{ROW}; {deed}" for deed in NO_DEEDS]:
            for k in FEW:
                for text in ("a", FORMULA, show(bushy(32))):
                    self.refused(TooFew, text, k, row)
            for text in ("f(a b)", FORMULA, show(bushy(32))):
                self.refused(TooFew, text, 1, row)

    def test_which_text_is_refused_is_told(self):
        # both are refused alike; that the formula's comes first is seen by the words alone
        for text, row, told in (("f(a a)", "take a 00", "f(a a)"), ("f(a b)", "take a 00", "00")):
            with self.assertRaises(NoText) as caught:
                judge(text, 2, row)
            self.assertIn(told, str(caught.exception))

    def test_shelf_places(self):
        for deed in NO_DEEDS:
            for k in [2, 3, 200] + GREAT:
                for row in (deed, f"{ROW}; {deed}", f"{deed}; {ROW}"):
                    self.refused(NoDeed, FORMULA, k, row)
            self.refused(NoDeed, "a", 1, deed)

    def test_boxes(self):
        for deed in NO_BOXES:
            for row in (deed, f"{ROW}; {deed}", f"{deed}; {ROW}"):
                self.refused(NoDeed, FORMULA, 2, row)
            self.refused(NoDeed, "a", 1, deed)
            self.refused(NoDeed, "a", 1, deed.replace("2", "1"))
            self.refused(NoDeed, "a", 1, f"take a 0; {deed}")

    def test_the_last_box_that_there_is(self):
        for k in (1, 2, 3, 10, 100, 200):
            last = k - 1
            deeds = [f"take a {last}", f"join f {last} {last} {last}", f"put {last} 99", f"fetch 99 {last}"]
            self.assertEqual(judge("a", k, "; ".join(deeds)), "not held")
            for slot_row in (
                f"take a {k}", f"join f {k} 0 0", f"join f 0 {k} 0", f"join f 0 0 {k}", f"put {k} 99", f"fetch 99 {k}",
            ):
                self.refused(NoDeed, "a", k, slot_row)

    def test_numbers_of_boxes_beyond_what_is_told(self):
        self.assertEqual(judge("a", 9999, "take a 9998"), "least")
        self.refused(NoDeed, "a", 9999, "take a 9999")
        for k in (10000, 10001):
            self.assertEqual(judge("a", k, "take a 9999"), "least")

    def test_two_hundred_deeds(self):
        self.assertEqual(judge("a", 1, "; ".join(["take a 0"] * 200)), "held 199 0 0 0")


if __name__ == "__main__":
    unittest.main()
