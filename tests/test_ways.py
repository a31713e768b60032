import copy
import itertools
import random
import unittest

from fewboxes.maker import row_for
from fewboxes.marks import moments
from fewboxes.ranks import rank
from fewboxes.texts import read
from fewboxes.ways import fullest, open_way
from helper import (
    SIDES, PlainMachine, big_mixed, bushy, chain, depth, drawn_row, figures, kinds_within, leaf, shapes, wandering_row,
)

SAMPLE = read("g(g(a b) a(c g(d e)))")
A, B, C, D, E = (0, 0), (0, 1), (1, 0), (1, 1, 0), (1, 1, 1)


def first_open(tree, held, place=()):
    """The same question as open_way answers, asked another way: from the top down, no further than what is held."""
    if place in held:
        return None
    if tree[0] == "leaf":
        return place
    left = first_open(tree[2], held, place + (0,))
    return first_open(tree[3], held, place + (1,)) if left is None else left


class OpenWayTest(unittest.TestCase):
    def test_no_place_held(self):
        self.assertEqual(open_way(leaf("a"), []), ())
        self.assertEqual(open_way(SAMPLE, []), A)
        self.assertEqual(open_way(chain(24, "left"), []), (0,) * 23)
        self.assertEqual(open_way(chain(24, "right"), []), (0,))

    def test_the_top_held(self):
        for tree in [leaf("a"), SAMPLE, bushy(32)] + [chain(24, side) for side in SIDES]:
            self.assertIsNone(open_way(tree, [()]))
            self.assertIsNone(open_way(tree, [None, (), None]))

    def test_a_leaf_held(self):
        self.assertEqual(open_way(SAMPLE, [A]), B)
        self.assertEqual(open_way(SAMPLE, [B]), A)
        self.assertEqual(open_way(SAMPLE, [A, B]), C)
        self.assertEqual(open_way(SAMPLE, [C, B, A]), D)
        self.assertEqual(open_way(SAMPLE, [A, B, C, D]), E)
        self.assertIsNone(open_way(SAMPLE, [A, B, C, D, E]))

    def test_a_place_between_held(self):
        self.assertEqual(open_way(SAMPLE, [(0,)]), C)
        self.assertEqual(open_way(SAMPLE, [(1,)]), A)
        self.assertEqual(open_way(SAMPLE, [(1, 1), (0,)]), C)
        self.assertEqual(open_way(SAMPLE, [(0,), C]), D)
        self.assertIsNone(open_way(SAMPLE, [(0,), (1,)]))
        self.assertIsNone(open_way(SAMPLE, [(1, 1), C, (0,)]))

    def test_none_among_the_held_ones(self):
        self.assertEqual(open_way(leaf("a"), [None]), ())
        self.assertEqual(open_way(SAMPLE, [None, None]), A)
        self.assertEqual(open_way(SAMPLE, [None, A, None, (1,)]), B)
        self.assertIsNone(open_way(SAMPLE, [(1,), None, (0,)]))

    def test_the_same_place_twice(self):
        self.assertEqual(open_way(SAMPLE, [A, A]), B)
        self.assertEqual(open_way(SAMPLE, [(0,), (0,), (0,)]), C)
        self.assertIsNone(open_way(SAMPLE, [(1,), (0,), (1,), (0,)]))
        self.assertIsNone(open_way(SAMPLE, [(), ()]))

    def test_every_held_list_of_small_formulas(self):
        for many in range(1, 6):
            for tree in shapes(many):
                all_places = PlainMachine(tree).all_places
                for chosen in itertools.product((True, False), repeat=len(all_places)):
                    held = [place for place in all_places if chosen[all_places.index(place)]]
                    told = open_way(tree, held)
                    self.assertEqual(told, first_open(tree, held))
                    self.assertEqual(open_way(tree, held[::-1] + [None]), told)

    def test_drawn_ones(self):
        source = random.Random(7)
        trees = big_mixed(128) + big_mixed(64, 8) + [bushy(32)] + [chain(24, side) for side in SIDES]
        self.assertEqual(max(depth(tree) for tree in trees), 24)
        shut = 0
        for tree in trees:
            all_places = PlainMachine(tree).all_places
            for size in (1, 2, 3, 5, 8, 16, 40, 200):
                # without the places near the top the formula is not always shut
                low = [place for place in all_places if len(place) > source.randrange(3)] or [()]
                held = [source.choice(low + [None]) for number in range(size)]
                told = open_way(tree, held)
                self.assertEqual(told, first_open(tree, held))
                shut += told is None
        self.assertGreater(shut, 100)

    def test_all_leaves_but_one(self):
        for tree in [bushy(32)] + [chain(24, side) for side in SIDES] + big_mixed(4):
            of_leaves = sorted(PlainMachine(tree).named.values())
            for place in of_leaves:
                held = [other for other in of_leaves if other != place]
                self.assertEqual(open_way(tree, held), place)
                for other in [place[:steps] for steps in range(len(place) + 1)]:
                    self.assertIsNone(open_way(tree, held + [other]))

    def test_what_is_handed_in_stays(self):
        tree = copy.deepcopy(SAMPLE)
        for held in ([], [()], [A, None, A, (1,)], [E, D, C, B, A], [(1,), (0,)]):
            before = copy.deepcopy(held)
            told = open_way(tree, held)
            self.assertEqual(open_way(tree, held), told)
            self.assertEqual((tree, held), (SAMPLE, before))
            self.assertIn(type(told), (tuple, type(None)))


class FullestTest(unittest.TestCase):
    def test_one_state(self):
        self.assertEqual(fullest([([None, A], [])]), (0, 1))
        self.assertEqual(fullest([([B, A], [C])]), (0, 2))
        self.assertEqual(fullest([([()], [])]), (0, 1))
        self.assertEqual(fullest([([], [])]), (0, 0))

    def test_many_states(self):
        self.assertEqual(fullest([([None, None], []), ([A, None], []), ([A, B], []), ([(0,), None], [])]), (2, 2))
        self.assertEqual(fullest([([A, B, C], []), ([A, B, None], [])]), (0, 3))
        self.assertEqual(fullest([([A, None, None], []), ([A, B, None], []), ([A, B, C], [])]), (2, 3))

    def test_the_first_among_those_with_the_most(self):
        self.assertEqual(fullest([([A, None], []), ([None, B], [])]), (0, 1))
        self.assertEqual(fullest([([None], []), ([A], []), ([B], []), ([None], []), ([()], [])]), (1, 1))
        self.assertEqual(fullest([([A, None], []), ([A, B], []), ([None, B], []), ([C, D], [])]), (1, 2))

    def test_the_same_place_in_two_boxes(self):
        self.assertEqual(fullest([([A, B, None], []), ([A, A, A], [])]), (1, 3))
        self.assertEqual(fullest([([(), ()], []), ([A, B], [])]), (0, 2))

    def test_the_shelf_does_not_count(self):
        self.assertEqual(fullest([([A, None], [A, B, C]), ([A, B], [None, None, None])]), (1, 2))
        self.assertEqual(fullest([([None], [A]), ([None], [B])]), (0, 0))
        self.assertEqual(fullest([([None], [None]), ([None], [()])]), (0, 0))

    def test_all_boxes_hold_none(self):
        for k in (0, 1, 2, 200):
            for size in (1, 2, 200):
                self.assertEqual(fullest([([None] * k, []) for number in range(size)]), (0, 0))

    def test_the_top_counts(self):
        # the empty tuple is a place, though it is taken for false
        self.assertEqual(fullest([([None, None], []), ([None, ()], []), ([(), None], [])]), (1, 1))

    def test_as_many_as_can_be(self):
        states = [([A] * number + [None] * (200 - number), [B] * 100) for number in range(200)]
        self.assertEqual(fullest(states), (199, 199))
        self.assertEqual(fullest(states[::-1]), (0, 199))

    def test_asked_another_way(self):
        source = random.Random(16)
        for tree in big_mixed(64):
            k, many = source.randrange(1, 8), source.randrange(4)
            states = PlainMachine(tree).moments(k, many, wandering_row(source, tree, k, many, source.randrange(200)))
            most = max(range(len(states)), key=lambda n: (k - states[n][0].count(None), -n))
            self.assertEqual(fullest(states), (most, k - states[most][0].count(None)))

    def test_what_is_handed_in_stays(self):
        for states in ([([A, None], [B]), ([A, B], [None])], [([None], [])], [([()], [()])] * 3):
            before = copy.deepcopy(states)
            told = fullest(states)
            self.assertEqual(states, before)
            self.assertEqual(fullest(states), told)
            self.assertEqual(kinds_within(told), {tuple, int})


def reachable(tree, k, most):
    """What k boxes can hold by takes and joins, in whatever order, while no moment has more than so many places."""
    machine = PlainMachine(tree)
    start = (None,) * k
    found, waiting = {start}, [start]
    while waiting:
        boxes = waiting.pop()
        into = range(k)
        deeds = [("take", x, i) for x in [*machine.named, "zzz"] for i in into]
        deeds += [join + (h,) for join in machine.useful_joins(boxes) for h in into]
        for deed in deeds:
            held = machine.after(deed, boxes, ())[0]
            behind = tuple(sorted(held, key=lambda place: (place is not None, place or ())))
            if k - behind.count(None) <= most and behind not in found:
                found.add(behind)
                waiting.append(behind)
    return found


class RankAndWaysTest(unittest.TestCase):
    """The part of the promise about rows of takes and joins."""

    def check_row(self, tree, k, row):
        self.assertEqual(figures(row)[2:], (0, 0))
        states = moments(tree, k, 0, row)
        shut = [n for n, state in enumerate(states) if open_way(tree, state[0]) is None]
        if k < rank(tree):
            self.assertEqual(shut, [])
        if shut:
            n, size = fullest(states[:shut[0] + 1])
            self.assertGreaterEqual(size, rank(tree))
            self.assertLessEqual(n, shut[0])
        return bool(shut)

    def test_every_row_of_small_formulas_on_too_few_boxes(self):
        for many in range(1, 7):
            for tree in shapes(many):
                for k in range(rank(tree)):
                    for boxes in reachable(tree, k, k):
                        self.assertIsNotNone(open_way(tree, list(boxes)), (tree, boxes))

    def test_every_row_of_small_formulas_before_it_is_full(self):
        for many in range(1, 6):
            for tree in shapes(many):
                for k in (rank(tree), rank(tree) + 1):
                    for boxes in reachable(tree, k, rank(tree) - 1):
                        self.assertIsNotNone(open_way(tree, list(boxes)), (tree, boxes))
                    # and it can be shut, once so many boxes hold something
                    self.assertIn(None, [open_way(tree, list(boxes)) for boxes in reachable(tree, k, rank(tree))])

    def test_eight_leaves_on_three_boxes(self):
        for boxes in reachable(bushy(8), 3, 3):
            self.assertIsNotNone(open_way(bushy(8), list(boxes)))

    def test_drawn_rows_that_wander(self):
        source = random.Random(3)
        shut = 0
        for tree in big_mixed(33) + big_mixed(33, 7) + [tree for many in range(1, 6) for tree in shapes(many)]:
            for k in range(1, rank(tree) + 2):
                shut += self.check_row(tree, k, wandering_row(source, tree, k, 0, source.randrange(201)))
        self.assertGreater(shut, 20)

    def test_rows_that_reckon_the_formula(self):
        source = random.Random(33)
        for tree in big_mixed(33) + big_mixed(33, 7) + [bushy(32)] + [chain(24, side) for side in SIDES]:
            for k in (rank(tree), rank(tree) + 1):
                if k > 1:
                    self.assertTrue(self.check_row(tree, k, row_for(tree, k)))
            for k in (25, 60):
                self.assertTrue(self.check_row(tree, k, drawn_row(source, tree, k, 0)))

    def test_the_told_row_on_just_as_many_boxes_as_the_rank(self):
        for many in range(2, 7):
            for tree in shapes(many):
                states = moments(tree, rank(tree), 0, row_for(tree, rank(tree)))
                self.assertEqual(fullest(states)[1], rank(tree))


if __name__ == "__main__":
    unittest.main()
