import copy
import unittest

from fewboxes.errors import TooFew
from fewboxes.ranks import least, must_put, rank
from fewboxes.texts import read
from helper import BIG, SIDES, assert_refused, big_mixed, bushy, chain, depth, kinds_within, knot, leaf, shapes

PAIR = "f(a b)"
FOUR = "f(g(a b) h(c d))"
SIX = "f(g(h(a b) i(c d)) j(e l))"
LOPSIDED = "f(g(h(a b) i(c d)) e)"
EIGHT = "p(q(r(a b) s(c d)) t(u(e f) v(g h)))"


def has_rank(tree, n):
    """Whether the rank is n or more, asked without reckoning any rank."""
    if n == 1:
        return True
    if tree[0] == "leaf":
        return False
    left, right = tree[2], tree[3]
    return has_rank(left, n) or has_rank(right, n) or (has_rank(left, n - 1) and has_rank(right, n - 1))


def putting_places(tree, k, place=()):
    """The places of the knots both of whose sons have a rank of k or more."""
    if tree[0] == "leaf":
        return []
    here = [place] if has_rank(tree[2], k) and has_rank(tree[3], k) else []
    return here + putting_places(tree[2], k, place + (0,)) + putting_places(tree[3], k, place + (1,))


def all_trees():
    trees = [tree for many in range(1, 7) for tree in shapes(many)]
    trees += [bushy(many) for many in range(1, 33)]
    trees += [chain(deep, side) for deep in range(1, 25) for side in SIDES]
    return trees + big_mixed(128) + big_mixed(64, 7)


class RankTest(unittest.TestCase):
    def test_samples(self):
        for text, told in (
            ("a", 1), ("abcdefgh", 1), (PAIR, 2), ("f(g(a b) c)", 2), ("f(c g(a b))", 2), (FOUR, 3), (SIX, 3),
            (LOPSIDED, 3), ("f(e g(h(a b) i(c d)))", 3), (EIGHT, 4), ("f(g(a h(b c)) d)", 2),
            ("f(g(a h(b c)) i(d e))", 3), ("f(i(d e) g(a h(b c)))", 3),
        ):
            self.assertEqual(rank(read(text)), told, text)

    def test_sons_alike_and_unlike(self):
        ranked = [bushy(2 ** n) for n in range(5)]
        for n, left in enumerate(ranked, start=1):
            self.assertEqual(rank(left), n)
            for m, right in enumerate(ranked, start=1):
                self.assertEqual(rank(knot("f", left, right)), n + 1 if n == m else max(n, m))

    def test_the_biggest(self):
        self.assertEqual(rank(bushy(31)), 5)
        self.assertEqual(rank(bushy(32)), 6)
        for side in SIDES:
            for deep in range(2, 25):
                self.assertEqual(rank(chain(deep, side)), 2)

    def test_asked_another_way(self):
        for tree in all_trees():
            told = rank(tree)
            self.assertIs(type(told), int)
            self.assertTrue(has_rank(tree, told))
            self.assertFalse(has_rank(tree, told + 1))

    def test_the_trees_are_as_big_as_may_be(self):
        trees = [tree for tree in all_trees() if len(putting_places(tree, 1)) == 31]
        self.assertEqual(max(depth(tree) for tree in trees), 24)
        self.assertGreaterEqual(len({rank(tree) for tree in trees}), 3)


class MustPutTest(unittest.TestCase):
    def test_samples(self):
        for text, k, told in (
            ("a", 2, []),
            (PAIR, 2, []),
            ("f(g(a b) c)", 2, []),
            (FOUR, 2, [()]),
            (FOUR, 3, []),
            (SIX, 2, [(), (0,)]),
            (SIX, 3, []),
            (LOPSIDED, 2, [(0,)]),
            (LOPSIDED, 3, []),
            ("f(e g(h(a b) i(c d)))", 2, [(1,)]),
            (EIGHT, 2, [(), (0,), (1,)]),
            (EIGHT, 3, [()]),
            (EIGHT, 4, []),
            ("f(g(a h(b c)) i(d e))", 2, [()]),
            ("f(i(d e) g(a h(b c)))", 2, [()]),
        ):
            self.assertEqual(must_put(read(text), k), told, (text, k))

    def test_the_biggest(self):
        self.assertEqual([len(must_put(bushy(32), k)) for k in range(2, 8)], [15, 7, 3, 1, 0, 0])
        for side in SIDES:
            self.assertEqual(must_put(chain(24, side), 2), [])

    def test_asked_another_way(self):
        for tree in all_trees():
            for k in range(2, rank(tree) + 3):
                told = must_put(tree, k)
                self.assertEqual(told, putting_places(tree, k))
                self.assertEqual(told, sorted(told))
                self.assertIs(type(told), list)
                self.assertLessEqual(kinds_within(told), {list, tuple, int})

    def test_far_more_boxes(self):
        for tree in (leaf("a"), read(EIGHT), bushy(32), chain(24, "both")):
            for k in (7, 200, 10 ** 29, 10 ** 30 - 1, 10 ** 59, BIG):
                self.assertEqual(must_put(tree, k), [])

    def test_lists_are_the_askers_own(self):
        for text, k in ((EIGHT, 2), (EIGHT, 4), ("a", 2)):
            tree = read(text)
            first, second = must_put(tree, k), must_put(tree, k)
            self.assertIsNot(first, second)
            expected = list(second)
            first.append("scribble")
            self.assertEqual(second, expected)
            self.assertEqual(must_put(tree, k), expected)


class LeastTest(unittest.TestCase):
    def test_samples(self):
        for text, k, told in (
            ("a", 2, (1, 0, 0, 0)),
            (PAIR, 2, (2, 1, 0, 0)),
            (FOUR, 2, (4, 3, 1, 1)),
            (FOUR, 3, (4, 3, 0, 0)),
            (SIX, 2, (6, 5, 2, 2)),
            (EIGHT, 2, (8, 7, 3, 3)),
            (EIGHT, 3, (8, 7, 1, 1)),
            (EIGHT, 4, (8, 7, 0, 0)),
        ):
            self.assertEqual(least(read(text), k), told, (text, k))

    def test_the_biggest(self):
        self.assertEqual(least(bushy(32), 2), (32, 31, 15, 15))
        self.assertEqual(least(bushy(32), 5), (32, 31, 1, 1))
        self.assertEqual(least(bushy(32), 6), (32, 31, 0, 0))
        for side in SIDES:
            self.assertEqual(least(chain(24, side), 2), (24, 23, 0, 0))

    def test_asked_another_way(self):
        for tree in all_trees():
            knots = len(putting_places(tree, 1))
            for k in range(2, rank(tree) + 3):
                m = len(putting_places(tree, k))
                told = least(tree, k)
                self.assertEqual(told, (knots + 1, knots, m, m))
                self.assertIs(type(told), tuple)
                self.assertEqual(kinds_within(told), {tuple, int})

    def test_far_more_boxes(self):
        for k in (200, 10 ** 29, 10 ** 30 - 1, 10 ** 59, BIG):
            self.assertEqual(least(leaf("a"), k), (1, 0, 0, 0))
            self.assertEqual(least(bushy(32), k), (32, 31, 0, 0))

    def test_one_box_and_a_leaf(self):
        for x in ("a", "abcdefgh", "knot"):
            self.assertEqual(least(leaf(x), 1), (1, 0, 0, 0))

    def test_one_box_and_a_knot(self):
        for tree in [read(text) for text in (PAIR, FOUR, EIGHT)] + [bushy(32), chain(24, "left")]:
            assert_refused(self, TooFew, least, tree, 1)

    def test_fewer_than_one_box(self):
        for tree in (leaf("a"), read(PAIR), read(EIGHT), bushy(32)):
            for k in (0, -1, -2, -200, -(10 ** 29), -(10 ** 59), -BIG):
                assert_refused(self, TooFew, least, tree, k)


class NothingKeptTest(unittest.TestCase):
    def test_what_is_handed_in_stays(self):
        for tree in (leaf("a"), read(EIGHT), bushy(32), chain(24, "both")):
            before = copy.deepcopy(tree)
            for times in range(2):
                told = (rank(tree), must_put(tree, 2), least(tree, 2))
                assert_refused(self, TooFew, least, tree, 0)
                self.assertEqual((rank(tree), must_put(tree, 2), least(tree, 2)), told)
            self.assertEqual(tree, before)


if __name__ == "__main__":
    unittest.main()
