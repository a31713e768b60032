import copy
import random
import unittest

from fewboxes.errors import NoDeed
from fewboxes.maker import row_for
from fewboxes.marks import moments
from fewboxes.numbers import reckoned, run, worth
from fewboxes.ranks import must_put, rank
from fewboxes.texts import read
from fewboxes.trees import part_at
from helper import (
    BIG, SIDES, assert_refused, big_mixed, bushy, chain, deeds_of, kinds_within, leaf, leaves_of, shapes, spoiled_deeds,
    wandering_row,
)

# by each of these the left and the right number are seen in the answer, each its own way
MEANINGS = {
    "f": (2, 3, 0, 0), "minus": (1, -1, 0, 0), "times": (0, 0, 1, 0), "left": (1, 0, 0, 0), "right": (0, 1, 0, 0),
    "seven": (0, 0, 0, 7), "all": (2, 3, 5, 7), "a": (10, 1, 0, 0),
}
GIVEN = {"a": 5, "b": 7, "c": 11, "d": 13, "all": 17, "unused": 999}


def meanings_drawn(source, tree):
    def number():
        return source.choice([source.randrange(-9, 10), source.randrange(-BIG, BIG + 1)])

    return {f: (number(), number(), number(), number()) for f in deeds_of(tree) + ["zzz"]}


def given_drawn(source, tree, M):
    return {x: source.randrange(M) for x in leaves_of(tree) + ["zzz"]}


class ReckonedTest(unittest.TestCase):
    def test_samples(self):
        for M, meaning, x, y, told in (
            (1000, (2, 3, 5, 7), 11, 13, 22 + 39 + 715 + 7),
            (100, (2, 3, 5, 7), 11, 13, 83),
            (10, (1, 0, 0, 0), 7, 3, 7),
            (10, (0, 1, 0, 0), 7, 3, 3),
            (10, (0, 0, 1, 0), 7, 3, 1),
            (10, (0, 0, 0, 1), 7, 3, 1),
            (10, (0, 0, 0, 0), 7, 3, 0),
            (10, (1, -1, 0, 0), 3, 7, 6),
            (10, (-1, 0, 0, 0), 3, 7, 7),
            (10, (0, 0, -1, 0), 3, 7, 9),
            (10, (0, 0, 0, -1), 3, 7, 9),
            (10, (0, 0, 0, -10), 3, 7, 0),
            (2, (1, 1, 1, 1), 1, 1, 0),
            (2, (1, 1, 0, 1), 1, 1, 1),
            (2, (-1, -1, -1, 0), 1, 1, 1),
            (2, (BIG, 0, 0, 0), 1, 0, 1),
            (2, (-BIG, 0, 0, 0), 1, 0, 1),
            (BIG, (1, 0, 0, 1), BIG - 1, 0, 0),
            (BIG, (0, 0, 1, 0), BIG - 1, BIG - 1, 1),
            (BIG, (0, 0, 0, -1), 0, 0, BIG - 1),
            (BIG, (BIG, BIG, BIG, BIG), BIG - 1, BIG - 1, 0),
            (BIG, (-BIG, -BIG, -BIG, -BIG), 1, 1, 0),
            (BIG, (1, 1, 0, 0), BIG - 1, BIG - 1, BIG - 2),
        ):
            self.assertEqual(reckoned(M, meaning, x, y), told, (M, meaning, x, y))

    def test_from_0_to_below_the_wheel(self):
        source = random.Random(3)
        for wheel in (2, 3, 10, 97, 10 ** 30, 10 ** 59, BIG):
            for bound in (2, 100, 10 ** 30, BIG):
                for times in range(50):
                    a, b, c, d = [source.randrange(-bound, bound + 1) for slot in range(4)]
                    x, y = source.randrange(wheel), source.randrange(wheel)
                    told = reckoned(wheel, (a, b, c, d), x, y)
                    self.assertIs(type(told), int)
                    self.assertTrue(0 <= told < wheel)
                    self.assertEqual((told - a * x - b * y - c * x * y - d) % wheel, 0)


class WorthTest(unittest.TestCase):
    def test_leaves(self):
        self.assertEqual(worth(100, MEANINGS, leaf("a"), GIVEN), 5)
        self.assertEqual(worth(100, {}, leaf("d"), {"d": 0}), 0)
        self.assertEqual(worth(BIG, {}, leaf("d"), {"d": BIG - 1}), BIG - 1)

    def test_knots(self):
        for text, told in (
            ("f(a b)", 31), ("f(b a)", 29), ("minus(a b)", 998), ("minus(b a)", 2), ("times(c d)", 143),
            ("left(a b)", 5), ("right(a b)", 7), ("seven(a b)", 7), ("all(a b)", 10 + 21 + 175 + 7),
            ("minus(minus(a b) c)", 987), ("minus(a minus(b c))", 9), ("f(times(a b) minus(c d))", 64),
            ("f(minus(c d) times(a b))", 101), ("times(minus(a b) minus(c d))", 4),
            # a leaf and a deed are called alike
            ("a(b a)", 75), ("all(all d)", 34 + 39 + 17 * 13 * 5 - 1000 + 7),
        ):
            self.assertEqual(worth(1000, MEANINGS, read(text), GIVEN), told, text)

    def test_deep_ones(self):
        for side in SIDES:
            tree = chain(24, side)
            self.assertEqual(worth(BIG, {"f": (1, 1, 0, 0)}, tree, {x: 1 for x in leaves_of(tree)}), 24)
            self.assertEqual(worth(BIG, {"f": (0, 0, 1, 0)}, tree, {x: 2 for x in leaves_of(tree)}), 2 ** 24)
        # a deed that moves the left number by one figure lets the leaves be read off as figures
        given = {x: at % 10 for at, x in enumerate(leaves_of(chain(24, "left")))}
        told = worth(BIG, {"f": (10, 1, 0, 0)}, chain(24, "left"), given)
        self.assertEqual(str(told).zfill(24), "".join(str(given[x]) for x in leaves_of(chain(24, "left"))))

    def test_wide_ones(self):
        tree = bushy(32)
        given = {x: at for at, x in enumerate(leaves_of(tree))}
        self.assertEqual(worth(BIG, {"g": (1, 1, 0, 0)}, tree, given), 31 * 16)
        self.assertEqual(worth(2, {"g": (1, 1, 0, 1)}, tree, {x: 1 for x in given}), 1)


class RunTest(unittest.TestCase):
    def boxes(self, k, many, row, M=1000):
        return run(M, MEANINGS, k, many, row, GIVEN)

    def test_no_deeds(self):
        for k, many in ((1, 0), (2, 3), (200, 100), (0, 0)):
            self.assertEqual(self.boxes(k, many, []), [0] * k)

    def test_take(self):
        self.assertEqual(self.boxes(3, 0, [("take", "b", 1)]), [0, 7, 0])
        self.assertEqual(self.boxes(2, 0, [("take", "b", 1), ("take", "a", 1)]), [0, 5])
        self.assertEqual(self.boxes(1, 0, [("take", "all", 0)]), [17])
        self.assertEqual(run(BIG, {}, 1, 0, [("take", "x", 0)], {"x": BIG - 1}), [BIG - 1])

    def test_join(self):
        takes = [("take", "a", 0), ("take", "b", 1), ("take", "c", 2)]
        for deed, told in (
            (("join", "f", 0, 1, 2), [5, 7, 31]),
            (("join", "f", 1, 0, 2), [5, 7, 29]),
            (("join", "f", 0, 1, 0), [31, 7, 11]),
            (("join", "f", 0, 1, 1), [5, 31, 11]),
            (("join", "f", 1, 1, 0), [35, 7, 11]),
            (("join", "f", 1, 1, 1), [5, 35, 11]),
            (("join", "minus", 0, 1, 0), [998, 7, 11]),
            (("join", "all", 2, 0, 1), [5, 22 + 15 + 275 + 7, 11]),
            (("join", "seven", 0, 0, 2), [5, 7, 7]),
        ):
            self.assertEqual(self.boxes(3, 0, takes + [deed]), told)

    def test_boxes_that_were_never_set(self):
        self.assertEqual(self.boxes(3, 0, [("join", "all", 0, 1, 2)]), [0, 0, 7])
        self.assertEqual(self.boxes(2, 0, [("take", "a", 0), ("join", "minus", 1, 0, 1)]), [5, 995])

    def test_put_and_fetch(self):
        ahead = [("take", "a", 0), ("take", "b", 1), ("put", 0, 1), ("put", 1, 0)]
        self.assertEqual(self.boxes(2, 2, ahead), [5, 7])
        self.assertEqual(self.boxes(3, 2, ahead + [("fetch", 1, 2)]), [5, 7, 5])
        self.assertEqual(self.boxes(3, 2, ahead + [("fetch", 0, 2)]), [5, 7, 7])
        self.assertEqual(self.boxes(3, 2, ahead + [("fetch", 0, 2), ("fetch", 0, 0)]), [7, 7, 7])
        self.assertEqual(self.boxes(2, 2, ahead + [("take", "c", 0), ("fetch", 1, 1)]), [11, 5])
        self.assertEqual(self.boxes(2, 2, ahead + [("put", 1, 1), ("fetch", 1, 0)]), [7, 7])

    def test_shelf_places_that_were_never_set(self):
        self.assertEqual(self.boxes(2, 2, [("take", "a", 0), ("put", 0, 0), ("fetch", 1, 0)]), [0, 0])

    def test_a_put_of_a_box_that_was_never_set(self):
        row = [("take", "a", 0), ("put", 0, 0), ("put", 1, 0), ("fetch", 0, 0)]
        self.assertEqual(self.boxes(2, 1, row), [0, 0])

    def test_kinds(self):
        told = self.boxes(2, 1, [("take", "a", 0), ("join", "f", 0, 0, 1), ("put", 0, 0)])
        self.assertEqual(kinds_within(told), {list, int})
        self.assertIs(type(told), list)

    def test_always_from_0_to_below_the_wheel(self):
        source = random.Random(9)
        for wheel in (2, 10, BIG):
            tree = bushy(8)
            row = wandering_row(source, tree, 3, 2, 150)
            told = run(wheel, meanings_drawn(source, tree), 3, 2, row, given_drawn(source, tree, wheel))
            self.assertTrue(all(0 <= number < wheel for number in told))


class NoDeedTest(unittest.TestCase):
    GIVEN = {"aa": 1, "zzz": 2}
    MEANINGS = {"f": (1, 1, 0, 0), "zzz": (0, 0, 0, 0)}

    def refused(self, k, many, row):
        assert_refused(self, NoDeed, run, 10, self.MEANINGS, k, many, row, self.GIVEN)

    def test_every_number_of_every_deed(self):
        ahead = [("take", "aa", 0), ("take", "zzz", 1), ("join", "f", 0, 1, 0), ("put", 0, 0), ("fetch", 0, 1)]
        for k, many in ((2, 2), (2, 5), (5, 2), (2, 1), (200, 100)):
            self.assertEqual(run(10, self.MEANINGS, k, many, ahead, self.GIVEN)[:2], [3, 3])
            for deed in spoiled_deeds(k, many):
                self.refused(k, many, [deed])
                self.refused(k, many, ahead + [deed])
                self.refused(k, many, ahead[:3] + [deed] + ahead[3:])

    def test_without_a_shelf_place(self):
        for s in (0, 1, -1, BIG):
            self.refused(2, 0, [("take", "aa", 0), ("put", 0, s)])
            self.refused(2, 0, [("take", "aa", 0), ("fetch", s, 0)])

    def test_without_a_box(self):
        for deed in (("take", "aa", 0), ("join", "f", 0, 0, 0), ("put", 0, 0), ("fetch", 0, 0)):
            self.refused(0, 1, [deed])


class NothingKeptTest(unittest.TestCase):
    def test_what_is_handed_in_stays(self):
        tree = read("f(minus(a b) times(c d))")
        handed = [dict(MEANINGS), row_for(tree, 2), dict(GIVEN), tree]
        before = copy.deepcopy(handed)
        first = run(1000, handed[0], 2, 1, handed[1], handed[2])
        self.assertEqual(first[0], worth(1000, handed[0], handed[3], handed[2]))
        reckoned(1000, handed[0]["f"], 1, 2)
        assert_refused(self, NoDeed, run, 1000, handed[0], 1, 1, handed[1], handed[2])
        self.assertEqual(handed, before)
        self.assertEqual([list(kept) for kept in handed[:3]], [list(kept) for kept in before[:3]])

    def test_lists_are_the_askers_own(self):
        for row in ([], [("take", "a", 0)]):
            first, second = run(10, {}, 2, 1, row, GIVEN), run(10, {}, 2, 1, row, GIVEN)
            self.assertIsNot(first, second)
            expected = list(second)
            first.append("scribble")
            first[0] = "scribble"
            self.assertEqual(second, expected)
            self.assertEqual(run(10, {}, 2, 1, row, GIVEN), expected)


class PromiseTest(unittest.TestCase):
    """Where a box holds a place, its number is what the formula's part there is worth."""

    def held_boxes(self, source, tree, k, many, row):
        """How many of the boxes behind a row hold a place, each of them being looked at."""
        wheel = source.choice([2, 3, 10, 97, 10 ** 30, BIG])
        meanings, given = meanings_drawn(source, tree), given_drawn(source, tree, wheel)
        boxes = moments(tree, k, many, row)[-1][0]
        told = run(wheel, meanings, k, many, row, given)
        self.assertEqual(len(told), k)
        for place, number in zip(boxes, told):
            if place is not None:
                self.assertEqual(number, worth(wheel, meanings, part_at(tree, place), given))
        return [place for place in boxes if place is not None]

    def test_any_row(self):
        source = random.Random(11)
        held = []
        for tree in [tree for many in range(1, 6) for tree in shapes(many)] + big_mixed(160):
            for times in range(3):
                k, many = source.randrange(1, 6), source.randrange(4)
                row = wandering_row(source, tree, k, many, source.randrange(1, 201))
                held.extend([(tree, place) for place in self.held_boxes(source, tree, k, many, row)])
        # the rows are of some use: knots are held, and whole formulas
        self.assertGreater(len([tree for tree, place in held if part_at(tree, place)[0] == "knot"]), 200)
        self.assertGreater(len([tree for tree, place in held if place == () and tree[0] == "knot"]), 20)

    def test_told_rows_with_other_deeds_strewn_in(self):
        source = random.Random(15)
        held = []
        for tree in big_mixed(96):
            for k in range(2, rank(tree) + 3):
                many = len(must_put(tree, k)) + 1
                row = row_for(tree, k)
                for deed in wandering_row(source, tree, k, many, source.randrange(4)):
                    row.insert(source.randrange(len(row) + 1), deed)
                held.extend(self.held_boxes(source, tree, k, many, row))
        self.assertGreater(len([place for place in held if place == ()]), 50)
        self.assertGreater(len([place for place in held if place != ()]), 50)

    def test_each_beginning_of_a_row(self):
        source = random.Random(12)
        for text in ("f(a b)", "f(g(a b) c)", "f(f(a b) f(c d))"):
            tree = read(text)
            row = wandering_row(source, tree, 3, 2, 120)
            for size in range(len(row) + 1):
                self.held_boxes(source, tree, 3, 2, row[:size])

    def test_what_is_on_the_shelf(self):
        source = random.Random(13)
        held = []
        for tree in big_mixed(64):
            row = wandering_row(source, tree, 3, 3, 100)
            held.extend(self.held_boxes(source, tree, 3, 3, row + [("fetch", s, s) for s in range(3)]))
        self.assertGreater(len(held), 20)

    def test_the_told_row(self):
        source = random.Random(14)
        trees = [tree for many in range(1, 6) for tree in shapes(many)] + [bushy(32)]
        trees += [chain(24, side) for side in SIDES] + big_mixed(64)
        for tree in trees:
            wheel = source.choice([2, 10, 97, BIG])
            meanings, given = meanings_drawn(source, tree), given_drawn(source, tree, wheel)
            for k in range(2, rank(tree) + 2):
                told = run(wheel, meanings, k, len(must_put(tree, k)), row_for(tree, k), given)
                self.assertEqual(told[0], worth(wheel, meanings, tree, given))
        self.assertEqual(run(10, {}, 1, 0, row_for(leaf("a"), 1), {"a": 7}), [7])


if __name__ == "__main__":
    unittest.main()
