import copy
import random
import unittest

from fewboxes.errors import NoDeed, NotHeld
from fewboxes.maker import row_for
from fewboxes.matching import matched, used_by
from fewboxes.ranks import least, must_put, rank
from fewboxes.texts import read
from helper import (
    BIG, SIDES, DrawnRow, PlainMachine, assert_refused, big_mixed, bushy, chain, depth, drawn_row, figures, knot, leaf,
    pruned, shapes, spoiled_deeds, wandering_row,
)

TAKE = ("take", "a", 0)
JOIN = ("join", "f", 0, 1, 0)


def uses(row):
    """A dict from the puts of a row that are used to the fetches that use them: told by one walk over the row."""
    waiting, used = {}, {}
    for at, deed in enumerate(row):
        if deed[0] == "put":
            waiting[deed[2]] = at
        elif deed[0] == "fetch" and deed[1] in waiting:
            used[waiting.pop(deed[1])] = at
    return used


class UsedByTest(unittest.TestCase):
    def check(self, row):
        used = uses(row)
        for n, deed in enumerate(row):
            if deed[0] == "put":
                self.assertEqual(used_by(row, n), used.get(n))

    def test_fetched(self):
        self.assertEqual(used_by([("put", 0, 0), ("fetch", 0, 0)], 0), 1)
        self.assertEqual(used_by([("put", 1, 3), TAKE, JOIN, ("fetch", 3, 0)], 0), 3)
        self.assertEqual(used_by([TAKE, ("put", 1, 2), ("fetch", 2, 0), TAKE], 1), 2)

    def test_fetched_twice(self):
        self.assertEqual(used_by([("put", 0, 0), ("fetch", 0, 0), ("fetch", 0, 1)], 0), 1)
        self.assertEqual(used_by([("put", 0, 0), TAKE, ("fetch", 0, 1), TAKE, ("fetch", 0, 1)], 0), 2)

    def test_another_put_comes_first(self):
        row = [("put", 0, 0), ("put", 1, 0), ("fetch", 0, 0)]
        self.assertIsNone(used_by(row, 0))
        self.assertEqual(used_by(row, 1), 2)
        # also one of the same box, and one that is fetched before
        self.assertIsNone(used_by([("put", 0, 5), ("put", 0, 5), ("fetch", 5, 0)], 0))
        self.assertEqual(used_by([("put", 0, 0), ("fetch", 0, 0), ("put", 0, 0), ("fetch", 0, 1)], 0), 1)
        self.assertEqual(used_by([("put", 0, 0), ("fetch", 0, 0), ("put", 0, 0), ("fetch", 0, 1)], 2), 3)

    def test_never_fetched(self):
        self.assertIsNone(used_by([("put", 0, 0)], 0))
        self.assertIsNone(used_by([("put", 0, 0), TAKE, JOIN], 0))
        self.assertIsNone(used_by([("put", 0, 0), ("put", 0, 0)], 0))
        self.assertIsNone(used_by([("put", 0, 0), ("put", 0, 0)], 1))
        self.assertIsNone(used_by([("fetch", 0, 0), ("put", 0, 0)], 1))

    def test_other_shelf_places(self):
        self.assertEqual(used_by([("put", 0, 0), ("put", 0, 1), ("put", 1, 2), ("fetch", 0, 0)], 0), 3)
        self.assertIsNone(used_by([("put", 0, 0), ("fetch", 1, 0), ("fetch", 2, 0)], 0))
        self.assertEqual(used_by([("put", 0, 1), ("fetch", 0, 1), ("put", 1, 0), ("fetch", 1, 0)], 0), 3)
        # a box that is numbered like the shelf place is not the shelf place
        self.assertEqual(used_by([("put", 0, 1), ("put", 1, 0), ("fetch", 0, 1), ("fetch", 1, 0)], 0), 3)
        self.assertIsNone(used_by([("put", 0, 1), ("fetch", 0, 1)], 0))
        self.assertEqual(used_by([("put", 0, 1), ("take", "a", 1), ("join", "f", 1, 1, 1), ("fetch", 1, 0)], 0), 3)

    def test_a_row_of_two_hundred(self):
        row = [("put", 0, 99)] + [TAKE, ("put", 0, 98)] * 99 + [("fetch", 99, 0)]
        self.assertEqual(used_by(row, 0), 199)
        self.assertIsNone(used_by(row, 198))

    def test_drawn_ones(self):
        source = random.Random(17)
        tree = read("f(f(a b) f(c d))")
        for number in range(200):
            many = source.randrange(1, 5)
            row = wandering_row(source, tree, 3, many, source.randrange(201))
            self.check([deed for deed in row if deed[0] in ("put", "fetch") or source.randrange(4) == 0])

    def test_the_row_stays(self):
        row = [("put", 0, 0), ("put", 1, 1), TAKE, ("fetch", 0, 0), ("fetch", 1, 1), ("put", 0, 0)]
        before = copy.deepcopy(row)
        self.assertEqual([used_by(row, n) for n in (0, 1, 5)], [3, 4, None])
        self.assertEqual(row, before)
        self.assertIs(type(used_by(row, 0)), int)


class MatchedCase(unittest.TestCase):
    def check(self, tree, k, many, row):
        """All that is promised of the matching, and that the row has no fewer deeds of any sort than the least."""
        before = list(row)
        told = matched(tree, k, many, row)
        self.assertEqual(row, before)
        self.assertIs(type(told), list)
        self.assertEqual([place for place, put, fetch in told], must_put(tree, k))
        self.assertEqual(len({put for place, put, fetch in told}), len(told))
        self.assertEqual(len({fetch for place, put, fetch in told}), len(told))
        used, states = uses(row), PlainMachine(tree).moments(k, many, row)
        for one in told:
            self.assertIs(type(one), tuple)
            place, put, fetch = one
            self.assertEqual((type(put), type(fetch)), (int, int))
            self.assertEqual(row[put][0], "put")
            held = states[put][0][row[put][1]]
            self.assertGreater(len(held), len(place))
            self.assertEqual(held[:len(place)], place)
            self.assertEqual(used[put], fetch)
        for has, need, told_has in zip(figures(row), least(tree, k), figures(row_for(tree, k))):
            self.assertEqual(need, told_has)
            self.assertGreaterEqual(has, need)

    def check_or_refused(self, tree, k, many, row):
        if () in PlainMachine(tree).moments(k, many, row)[-1][0]:
            self.check(tree, k, many, row)
            return True
        self.assertRaises(NotHeld, matched, tree, k, many, row)
        return False


class MatchedTest(MatchedCase):
    ROW = [
        ("take", "a", 0), ("take", "b", 1), ("join", "g", 0, 1, 0), ("put", 0, 0),
        ("take", "c", 0), ("take", "d", 1), ("join", "g", 0, 1, 0), ("fetch", 0, 1), ("join", "f", 1, 0, 1),
    ]
    TREE = read("f(g(a b) g(c d))")

    def test_samples(self):
        self.assertEqual(matched(self.TREE, 2, 1, self.ROW), [((), 3, 7)])
        self.assertEqual(matched(self.TREE, 3, 1, self.ROW), [])
        self.assertEqual(matched(leaf("a"), 2, 0, [("take", "a", 1)]), [])
        row = [("take", "a", 1), ("take", "b", 0), ("join", "f", 1, 0, 0)]
        self.assertEqual(matched(read("f(a b)"), 2, 0, row), [])

    def test_puts_that_will_not_do(self):
        # of None, of a name that no leaf has, of what is not fetched, of what is put over, and of the whole formula
        ahead = [("put", 0, 1), ("fetch", 1, 0), ("take", "zzz", 1), ("put", 1, 2), ("fetch", 2, 1), ("take", "d", 1),
                 ("put", 1, 0)]
        behind = [("put", 1, 3), ("fetch", 3, 1)]
        row = ahead + self.ROW + behind
        self.assertEqual(matched(self.TREE, 2, 4, row), [((), 10, 14)])
        self.check(self.TREE, 2, 4, row)

    def test_a_put_behind_which_the_formula_was_held_before(self):
        row = self.ROW[:3] + self.ROW + [("take", "zzz", 1)] + self.ROW
        self.check(self.TREE, 2, 1, row)

    def test_an_inner_knot_whose_puts_serve_the_outer_too(self):
        # the first used put lies within both knots that must put, the second one within the outer alone
        tree = read("f(g(h(a b) i(c d)) j(x y))")
        self.assertEqual(must_put(tree, 2), [(), (0,)])
        row = [
            ("take", "a", 0), ("take", "b", 1), ("join", "h", 0, 1, 0), ("put", 0, 0),
            ("take", "c", 0), ("take", "d", 1), ("join", "i", 0, 1, 1), ("fetch", 0, 0), ("join", "g", 0, 1, 0),
            ("put", 0, 0), ("take", "x", 0), ("take", "y", 1), ("join", "j", 0, 1, 1), ("fetch", 0, 0),
            ("join", "f", 0, 1, 0),
        ]
        self.assertEqual(matched(tree, 2, 1, row), [((), 9, 13), ((0,), 3, 7)])
        # and the other way about: the put within the outer alone comes first
        row = [
            ("take", "x", 0), ("take", "y", 1), ("join", "j", 0, 1, 1), ("put", 1, 1),
            ("take", "a", 0), ("take", "b", 1), ("join", "h", 0, 1, 0), ("put", 0, 0),
            ("take", "c", 0), ("take", "d", 1), ("join", "i", 0, 1, 1), ("fetch", 0, 0), ("join", "g", 0, 1, 0),
            ("fetch", 1, 1), ("join", "f", 0, 1, 0),
        ]
        self.assertEqual(matched(tree, 2, 2, row), [((), 3, 13), ((0,), 7, 11)])

    def test_told_rows(self):
        trees = [tree for many in range(1, 8) for tree in shapes(many)]
        trees += big_mixed(64) + big_mixed(64, 7) + [bushy(32)] + [chain(24, side) for side in SIDES]
        for tree in trees:
            for k in range(2, rank(tree) + 2):
                self.check(tree, k, len(must_put(tree, k)), row_for(tree, k))
        self.assertEqual(max(depth(tree) for tree in trees), 24)

    def test_the_biggest(self):
        self.assertEqual(len(matched(bushy(32), 2, 100, row_for(bushy(32), 2))), 15)
        self.check(bushy(32), 200, 100, row_for(bushy(32), 200))
        row = row_for(bushy(32), 2)
        row = [("put", 0, 99)] * (200 - len(row)) + row
        self.assertEqual(len(row), 200)
        self.check(bushy(32), 2, 100, row)
        self.check(bushy(32), 200, 100, row)

    def test_rows_of_each_small_shape(self):
        source = random.Random(181)
        for many in range(1, 7):
            for tree in shapes(many):
                for k in range(2, rank(tree) + 2):
                    for shelf in (many, 100):
                        row = drawn_row(source, tree, k, shelf)
                        self.check(tree, k, shelf, row)
                        self.check(tree, k, shelf, pruned(source, tree, k, shelf, row))

    def test_drawn_rows(self):
        source = random.Random(182)
        longest = 0
        for tree in big_mixed(96) + big_mixed(96, 7) + [bushy(32)] + [chain(24, side) for side in SIDES]:
            for k in [*range(2, rank(tree) + 2), 200]:
                row = drawn_row(source, tree, k, 100)
                longest = max(longest, len(row))
                self.check(tree, k, 100, row)
        self.assertGreater(longest, 190)

    def test_pruned_rows(self):
        source = random.Random(183)
        for tree in big_mixed(33) + big_mixed(33, 7):
            for k in range(2, rank(tree) + 1):
                self.check(tree, k, 24, pruned(source, tree, k, 24, drawn_row(source, tree, k, 24)))

    def test_rows_with_not_one_deed_to_spare(self):
        source = random.Random(186)
        for tree in [tree for many in range(1, 7) for tree in shapes(many)] + big_mixed(33) + big_mixed(64, 7):
            for k in range(2, rank(tree) + 1):
                for thrifty in (True, False):
                    row = DrawnRow(source, tree, k, 24, 0, True, thrifty).row
                    self.assertEqual(figures(row), least(tree, k))
                    self.check(tree, k, 24, row)

    def test_rows_that_wander(self):
        source = random.Random(184)
        held = 0
        for text in (
            "f(f(a b) f(c d))", "f(f(a f(b c)) f(d e))", "f(f(f(a b) f(c d)) f(x y))", "f(a f(f(b c) f(d e)))",
        ):
            tree = read(text)
            for number in range(200):
                k, many = source.randrange(2, 4), source.randrange(1, 4)
                row = wandering_row(source, tree, k, many, 200)
                states = PlainMachine(tree).moments(k, many, row)
                upto = [n for n, state in enumerate(states) if () in state[0]] or [200]
                held += self.check_or_refused(tree, k, many, row[:upto[0]])
                held += self.check_or_refused(tree, k, many, row)
        self.assertGreater(held, 100)

    def test_rows_with_one_deed_off(self):
        source = random.Random(185)
        held, lost = 0, 0
        for tree in [self.TREE, bushy(8), bushy(16), chain(8, "both")] + big_mixed(4, 9)[:6]:
            for k in (2, 3):
                row = drawn_row(source, tree, k, 12)
                for at in range(len(row)):
                    for other in ([], [row[at]] * 2, [("take", "zzz", 0)], row[at + 1:at + 2] + [row[at]]):
                        if self.check_or_refused(tree, k, 12, row[:at] + other + row[at + 1:]):
                            held += 1
                        else:
                            lost += 1
        self.assertGreater(min(held, lost), 500)

    def test_the_same_each_time_and_the_askers_own(self):
        for tree, k in ((self.TREE, 2), (bushy(32), 2), (bushy(32), 6), (leaf("a"), 2)):
            row = row_for(tree, k)
            first, second = matched(tree, k, 100, row), matched(copy.deepcopy(tree), k, 100, list(row))
            self.assertEqual(first, second)
            self.assertIsNot(first, second)
            first.append("scribble")
            self.assertEqual(matched(tree, k, 100, row), second)
            self.assertEqual(row, row_for(tree, k))


class NotHeldTest(MatchedCase):
    def refused(self, tree, k, many, row):
        before = copy.deepcopy((tree, row))
        assert_refused(self, NotHeld, matched, tree, k, many, row)
        self.assertEqual((tree, row), before)

    def test_no_deeds(self):
        for tree in (leaf("a"), MatchedTest.TREE, bushy(32)):
            for k in (2, 3, 200):
                self.refused(tree, k, 0, [])

    def test_a_deed_too_few(self):
        for tree in [leaf("a"), MatchedTest.TREE, bushy(32)] + [chain(24, side) for side in SIDES]:
            for k in (2, 3, 7):
                self.refused(tree, k, 100, row_for(tree, k)[:-1])

    def test_held_before_and_lost(self):
        row = MatchedTest.ROW
        self.assertEqual(matched(MatchedTest.TREE, 2, 1, row), [((), 3, 7)])
        self.refused(MatchedTest.TREE, 2, 1, row + [("take", "a", 1)])
        self.refused(MatchedTest.TREE, 2, 1, row + [("take", "zzz", 1)])
        self.refused(MatchedTest.TREE, 2, 1, row + [("join", "f", 1, 1, 1)])
        self.refused(MatchedTest.TREE, 2, 1, row + [("fetch", 0, 1)])
        # it stays where another box is written, and it comes back from the shelf
        self.assertEqual(matched(MatchedTest.TREE, 2, 1, row + [("take", "a", 0)]), [((), 3, 7)])
        lost = row + [("put", 1, 0), ("take", "a", 1)]
        self.assertEqual(matched(MatchedTest.TREE, 2, 1, lost + [("fetch", 0, 0)]), [((), 3, 7)])

    def test_on_the_shelf_alone(self):
        self.refused(MatchedTest.TREE, 2, 1, MatchedTest.ROW + [("put", 1, 0), ("take", "a", 1)])
        self.refused(leaf("a"), 2, 1, [("take", "a", 0), ("put", 0, 0), ("take", "b", 0)])

    def test_another_formula(self):
        self.refused(read("f(g(a b) g(d c))"), 2, 1, MatchedTest.ROW)
        self.refused(read("g(g(a b) g(c d))"), 2, 1, MatchedTest.ROW)
        self.refused(knot("h", MatchedTest.TREE, leaf("x")), 2, 1, MatchedTest.ROW)
        self.refused(leaf("b"), 2, 0, [("take", "a", 0)])

    def test_shelf_places_that_are_needed(self):
        # one put over the other, where two are needed at once
        row = [(deed[0], deed[1], 0) if deed[0] == "put" else (deed[0], 0, deed[2]) if deed[0] == "fetch" else deed
               for deed in row_for(bushy(8), 2)]
        self.refused(bushy(8), 2, 1, row)


class NoDeedTest(unittest.TestCase):
    def test_every_number_of_every_deed(self):
        row = MatchedTest.ROW
        for k, many in ((2, 1), (3, 2), (200, 100)):
            self.assertEqual(len(matched(MatchedTest.TREE, k, many, row)), 1 if k == 2 else 0)
            for deed in spoiled_deeds(k, many):
                # without other deeds, behind a row that holds, ahead of it, amid it, and amid one that does not hold
                for spoiled in ([deed], row + [deed], [deed] + row, row[:4] + [deed] + row[4:], row[:2] + [deed]):
                    before = list(spoiled)
                    assert_refused(self, NoDeed, matched, MatchedTest.TREE, k, many, spoiled)
                    self.assertEqual(spoiled, before)

    def test_in_each_place_of_a_row(self):
        row = MatchedTest.ROW
        for at in range(len(row)):
            for slot in range(1, len(row[at])):
                if isinstance(row[at][slot], int):
                    for number in (-1, 2, 100, BIG, -BIG):
                        spoiled = row[:at] + [row[at][:slot] + (number,) + row[at][slot + 1:]] + row[at + 1:]
                        assert_refused(self, NoDeed, matched, MatchedTest.TREE, 2, 1, spoiled)

    def test_without_a_shelf_place(self):
        assert_refused(self, NoDeed, matched, MatchedTest.TREE, 2, 0, MatchedTest.ROW)
        assert_refused(self, NoDeed, matched, MatchedTest.TREE, 3, 0, MatchedTest.ROW)

    def test_the_last_that_there_are(self):
        row = MatchedTest.ROW + [("take", "a", 199), ("put", 199, 99), ("fetch", 99, 199)]
        self.assertEqual(matched(MatchedTest.TREE, 200, 100, row), [])
        assert_refused(self, NoDeed, matched, MatchedTest.TREE, 199, 100, row)
        assert_refused(self, NoDeed, matched, MatchedTest.TREE, 200, 99, row)


if __name__ == "__main__":
    unittest.main()
