import collections
import copy
import unittest

from fewboxes.errors import TooFew
from fewboxes.maker import row_for
from fewboxes.marks import moments
from fewboxes.ranks import least, must_put, rank
from fewboxes.texts import read
from helper import (
    BIG, SIDES, SORTS, PlainMachine, assert_refused, big_mixed, bushy, chain, depth, figures, knot, leaf, shapes,
)


class RowTest(unittest.TestCase):
    def check(self, tree, k):
        row = row_for(tree, k)
        many = len(must_put(tree, k))
        self.assertEqual(figures(row), least(tree, k))
        self.assertEqual(len(row), sum(least(tree, k)))
        # moments refuses what no machine of k boxes and so many shelf places can do
        self.assertEqual(moments(tree, k, many, row)[-1][0][0], ())
        self.assertEqual(PlainMachine(tree).moments(k, many, row)[-1][0][0], ())

    def test_each_shape_of_few_leaves(self):
        for many in range(1, 8):
            for tree in shapes(many):
                for k in range(2, rank(tree) + 3):
                    self.check(tree, k)

    def test_the_biggest(self):
        for tree in [bushy(many) for many in range(1, 33)] + [chain(deep, side) for deep in range(1, 25)
                                                             for side in SIDES]:
            for k in range(2, rank(tree) + 3):
                self.check(tree, k)

    def test_drawn_ones(self):
        trees = big_mixed(256) + big_mixed(256, 7) + big_mixed(128, 12)
        for tree in trees:
            for k in range(2, rank(tree) + 3):
                self.check(tree, k)
        self.assertEqual(max(depth(tree) for tree in trees), 24)

    def test_a_great_son_on_either_side(self):
        for left, right in ((4, 8), (8, 4), (8, 2), (2, 8), (16, 4), (4, 16), (1, 16), (16, 1), (16, 16), (8, 8)):
            tree = knot("f", bushy(left), bushy(right, left))
            for k in range(2, rank(tree) + 3):
                self.check(tree, k)

    def test_one_box_and_a_leaf(self):
        for x in ("a", "abcdefgh"):
            self.assertEqual(row_for(leaf(x), 1), [("take", x, 0)])

    def test_a_leaf(self):
        for k in (2, 3, 200, 10 ** 59, BIG):
            self.assertEqual(row_for(leaf("a"), k), [("take", "a", 0)])

    def test_far_more_boxes(self):
        for tree in [leaf("a"), read("f(a b)"), bushy(32)] + [chain(24, side) for side in SIDES] + big_mixed(32):
            for k in (7, 200, 10 ** 29, 10 ** 30 - 1, 10 ** 59, BIG):
                row = row_for(tree, k)
                self.assertEqual(figures(row), least(tree, k))
                self.assertEqual(figures(row)[2:], (0, 0))
                # all that the row touches lies below k, since it lies below a k that a machine can have
                self.assertEqual(moments(tree, min(k, 200), 0, row)[-1][0][0], ())

    def test_one_box_and_a_knot(self):
        for tree in [read("f(a b)"), read("f(g(a b) c)"), bushy(32), chain(24, "right")]:
            assert_refused(self, TooFew, row_for, tree, 1)

    def test_fewer_than_one_box(self):
        for tree in (leaf("a"), read("f(a b)"), bushy(32)):
            for k in (0, -1, -2, -200, -(10 ** 29), -(10 ** 59), -BIG):
                assert_refused(self, TooFew, row_for, tree, k)

    def test_kinds(self):
        for deed in row_for(bushy(32), 3):
            self.assertIs(type(deed), tuple)
            kinds = {"take": [str, str, int], "join": [str, str, int, int, int], "put": [str, int, int],
                     "fetch": [str, int, int]}
            self.assertEqual([type(thing) for thing in deed], kinds[deed[0]])

    def test_the_same_each_time_and_the_askers_own(self):
        for tree, k in ((leaf("a"), 1), (leaf("a"), 2), (bushy(32), 2), (bushy(32), 6), (chain(24, "both"), 2)):
            before = copy.deepcopy(tree)
            first, second = row_for(tree, k), row_for(tree, k)
            self.assertIs(type(first), list)
            self.assertEqual(first, second)
            self.assertIsNot(first, second)
            first.append("scribble")
            first[0] = "scribble"
            self.assertNotEqual(first, second)
            self.assertEqual(row_for(copy.deepcopy(tree), k), second)
            self.assertEqual(tree, before)


def order_of(place):
    return (place is not None, place or ())


def fewest(tree, k, many, sort):
    """How few deeds of a sort a row needs behind which a box holds the formula; None where there is no such row.

    All rows on k boxes and so many shelf places are looked at, up to how boxes and shelf places are numbered,
    but for those with deeds that are not worth trying.
    """
    machine = PlainMachine(tree)
    start = ((None,) * k, (None,) * many)
    reached, waiting = {start: 0}, collections.deque([start])
    while waiting:
        boxes, shelf = state = waiting.popleft()
        if () in boxes:
            return reached[state]
        for deed in deeds_worth_trying(machine, boxes, shelf):
            held = machine.after(deed, boxes, shelf)
            behind = tuple(tuple(sorted(part, key=order_of)) for part in held)
            cost = reached[state] + (deed[0] == sort)
            if cost < reached.get(behind, cost + 1):
                reached[behind] = cost
                # what costs nothing more comes ahead, so that the states come by their cost
                if deed[0] == sort:
                    waiting.append(behind)
                else:
                    waiting.appendleft(behind)
    return None


def deeds_worth_trying(machine, boxes, shelf):
    """Every deed that leaves something of the formula where it goes: holding nothing instead never helps."""
    into = range(len(boxes))
    deeds = [("take", x, i) for x in machine.named for i in into]
    deeds += [join + (h,) for join in machine.useful_joins(boxes) for h in into]
    deeds += [("put", i, s) for i in into for s in range(len(shelf)) if boxes[i] is not None]
    deeds += [("fetch", s, i) for i in into for s in range(len(shelf)) if shelf[s] is not None]
    return deeds


class FewestTest(unittest.TestCase):
    """No row on as many shelf places as the told row has, or on one, has fewer deeds of any sort: by search."""

    def check(self, tree, k):
        many = max(1, len(must_put(tree, k)))
        told = tuple(fewest(tree, k, many, sort) for sort in SORTS)
        self.assertEqual(told, figures(row_for(tree, k)), (tree, k))
        self.assertEqual(told, least(tree, k))

    def test_two_boxes(self):
        for many in range(1, 7):
            for tree in shapes(many):
                self.check(tree, 2)

    def test_three_boxes(self):
        for many in range(1, 5):
            for tree in shapes(many):
                self.check(tree, 3)
        self.check(bushy(8), 3)
        self.check(knot("f", bushy(2), bushy(4, 2)), 3)

    def test_one_box_and_none(self):
        for many in range(1, 5):
            for tree in shapes(many):
                self.assertIsNone(fewest(tree, 0, 2, "take"))
                self.assertEqual(fewest(tree, 1, 2, "take"), 1 if tree[0] == "leaf" else None)


if __name__ == "__main__":
    unittest.main()
