import copy
import itertools
import random
import unittest

from fewboxes.errors import NoDeed
from fewboxes.marks import fresh, marked, moments
from fewboxes.texts import read
from helper import (
    BIG, PlainMachine, assert_refused, big_mixed, bushy, chain, deeds_of, kinds_within, leaf, leaves_of, spoiled_deeds,
    wandering_row,
)

# the deed g stands at three knots, and one of them is called like a leaf's name
SAMPLE = read("g(g(a b) a(c g(d e)))")
A, B, C, D, E = (0, 0), (0, 1), (1, 0), (1, 1, 0), (1, 1, 1)


def lists_of(states):
    return [held for state in states for held in state]


class FreshTest(unittest.TestCase):
    def test_samples(self):
        self.assertEqual(fresh(2, 1), ([None, None], [None]))
        self.assertEqual(fresh(1, 3), ([None], [None, None, None]))
        self.assertEqual(fresh(3, 0), ([None, None, None], []))
        self.assertEqual(fresh(0, 0), ([], []))
        self.assertEqual(fresh(200, 100), ([None] * 200, [None] * 100))

    def test_lists_are_the_askers_own(self):
        for k, many in ((2, 2), (1, 0), (0, 0)):
            states = [fresh(k, many), fresh(k, many)]
            self.assertEqual([type(state) for state in states], [tuple, tuple])
            self.assertEqual(len({id(held) for held in lists_of(states)}), 4)
            for held in states[0]:
                held.append("scribble")
            self.assertEqual(states[1], ([None] * k, [None] * many))
            self.assertEqual(fresh(k, many), states[1])


class TakeTest(unittest.TestCase):
    def test_a_leaf(self):
        self.assertEqual(marked(leaf("a"), ("take", "a", 0), ([None], [])), ([()], []))
        for x, place in (("a", A), ("b", B), ("c", C), ("d", D), ("e", E)):
            for i in range(3):
                boxes = [None, None, None]
                boxes[i] = place
                self.assertEqual(marked(SAMPLE, ("take", x, i), fresh(3, 1)), (boxes, [None]))

    def test_a_name_that_no_leaf_has(self):
        # a name that is nowhere, a deed's name, a longer one
        for x in ("z", "g", "aa", "zzzzzzzz"):
            self.assertEqual(marked(SAMPLE, ("take", x, 1), ([A, B, C], [D])), ([A, None, C], [D]))

    def test_over_what_was_held(self):
        self.assertEqual(marked(SAMPLE, ("take", "a", 1), ([A, B, C], [D, None])), ([A, A, C], [D, None]))
        self.assertEqual(marked(SAMPLE, ("take", "e", 0), ([(), B], [])), ([E, B], []))


class JoinTest(unittest.TestCase):
    def joined(self, f, i, j, h, boxes):
        """What box h then holds, all else being as it was."""
        shelf = [A, None, ()]
        told = marked(SAMPLE, ("join", f, i, j, h), (boxes, shelf))
        self.assertEqual(told[0][:h] + told[0][h + 1:], boxes[:h] + boxes[h + 1:])
        self.assertEqual(told[1], shelf)
        return told[0][h]

    def test_two_sons(self):
        for f, left, right, place in (
            ("g", A, B, (0,)), ("g", D, E, (1, 1)), ("a", C, (1, 1), (1,)), ("g", (0,), (1,), ()),
        ):
            for i, j in itertools.permutations(range(3), 2):
                for h in range(3):
                    boxes = [None, None, None]
                    boxes[i], boxes[j] = left, right
                    self.assertEqual(self.joined(f, i, j, h, boxes), place)

    def test_into_one_of_its_own_boxes(self):
        self.assertEqual(marked(SAMPLE, ("join", "g", 0, 1, 0), ([A, B], [])), ([(0,), B], []))
        self.assertEqual(marked(SAMPLE, ("join", "g", 0, 1, 1), ([A, B], [])), ([A, (0,)], []))
        self.assertEqual(marked(SAMPLE, ("join", "g", 1, 0, 0), ([B, A], [])), ([(0,), A], []))
        self.assertEqual(marked(SAMPLE, ("join", "g", 1, 0, 1), ([B, A], [])), ([B, (0,)], []))

    def test_a_deed_that_no_knot_has(self):
        for f in ("z", "b", "gg", "leaf", "knot"):
            self.assertIsNone(self.joined(f, 0, 1, 2, [A, B, C]))

    def test_a_deed_of_other_knots_alone(self):
        self.assertIsNone(self.joined("a", 0, 1, 0, [A, B, None]))
        self.assertIsNone(self.joined("g", 0, 1, 0, [C, (1, 1), None]))
        self.assertIsNone(self.joined("a", 0, 1, 0, [(0,), (1,), None]))

    def test_boxes_alike(self):
        for place in (None, A, B, (), (0,), (1,), (1, 1), E):
            for h in range(2):
                self.assertIsNone(self.joined("g", 0, 0, h, [place, B]))
                self.assertIsNone(self.joined("g", 1, 1, h, [A, place]))

    def test_sons_in_the_wrong_boxes(self):
        self.assertIsNone(self.joined("g", 1, 0, 0, [A, B]))
        self.assertIsNone(self.joined("g", 0, 1, 0, [B, A]))
        self.assertIsNone(self.joined("g", 0, 1, 1, [(1,), (0,)]))
        self.assertIsNone(self.joined("a", 0, 1, 2, [(1, 1), C, ()]))

    def test_two_left_and_two_right_sons(self):
        self.assertIsNone(self.joined("g", 0, 1, 0, [A, A]))
        self.assertIsNone(self.joined("g", 0, 1, 0, [B, B]))

    def test_sons_of_two_knots(self):
        for left, right in ((A, E), (D, B), ((0,), E), (A, (1,)), (C, B), ((), (1,)), ((0,), ()), ((), ()), (A, ())):
            for f in ("g", "a"):
                self.assertIsNone(self.joined(f, 0, 1, 0, [left, right]))

    def test_of_none(self):
        for left, right in ((None, None), (A, None), (None, B), ((), None), (None, ())):
            for f in ("g", "a", "z"):
                self.assertIsNone(self.joined(f, 0, 1, 0, [left, right]))
                self.assertIsNone(self.joined(f, 0, 1, 2, [left, right, A]))

    def test_in_a_leaf(self):
        for held in ((), None):
            self.assertEqual(marked(leaf("a"), ("join", "a", 0, 1, 0), ([held, ()], [])), ([None, ()], []))


class ShelfTest(unittest.TestCase):
    def test_put(self):
        self.assertEqual(marked(SAMPLE, ("put", 1, 0), ([A, B], [None, C])), ([A, B], [B, C]))
        self.assertEqual(marked(SAMPLE, ("put", 0, 1), ([A, B], [None, C])), ([A, B], [None, A]))
        self.assertEqual(marked(SAMPLE, ("put", 0, 2), ([()], [None, C, D])), ([()], [None, C, ()]))

    def test_put_of_none(self):
        self.assertEqual(marked(SAMPLE, ("put", 1, 1), ([A, None], [B, C])), ([A, None], [B, None]))

    def test_fetch(self):
        self.assertEqual(marked(SAMPLE, ("fetch", 1, 0), ([A, B], [None, C])), ([C, B], [None, C]))
        self.assertEqual(marked(SAMPLE, ("fetch", 0, 1), ([A, B], [D, C])), ([A, D], [D, C]))
        self.assertEqual(marked(SAMPLE, ("fetch", 2, 0), ([None], [A, B, ()])), ([()], [A, B, ()]))

    def test_fetch_of_none(self):
        self.assertEqual(marked(SAMPLE, ("fetch", 0, 1), ([A, B], [None, C])), ([A, None], [None, C]))


class EveryDeedTest(unittest.TestCase):
    def test_every_deed_in_every_state(self):
        # as many boxes as let i, j and h be unlike, and another number of shelf places
        for text, k, many in (("f(a b)", 3, 2), ("f(a g(b c))", 3, 1), ("f(f(a b) f)", 3, 1), ("a", 2, 2)):
            tree = read(text)
            machine = PlainMachine(tree)
            deeds = [("take", x, i) for x in leaves_of(tree) + ["z"] for i in range(k)]
            deeds += [("join", f, *boxes) for f in deeds_of(tree) + ["z"] for boxes in
                      itertools.product(range(k), repeat=3)]
            deeds += [("put", i, s) for i in range(k) for s in range(many)]
            deeds += [("fetch", s, i) for i in range(k) for s in range(many)]
            for held in itertools.product([None] + machine.all_places, repeat=k + many):
                state = (list(held[:k]), list(held[k:]))
                for deed in deeds:
                    self.assertEqual(marked(tree, deed, state), machine.after(deed, *state), (deed, state))
                self.assertEqual(state, (list(held[:k]), list(held[k:])))


class MomentsTest(unittest.TestCase):
    def test_a_row(self):
        row = [
            ("take", "d", 0), ("take", "e", 1), ("join", "g", 0, 1, 1), ("put", 1, 0), ("take", "z", 1),
            ("fetch", 0, 0), ("take", "c", 1), ("join", "a", 1, 0, 0), ("fetch", 1, 1),
        ]
        self.assertEqual(moments(SAMPLE, 2, 2, row), [
            ([None, None], [None, None]),
            ([D, None], [None, None]),
            ([D, E], [None, None]),
            ([D, (1, 1)], [None, None]),
            ([D, (1, 1)], [(1, 1), None]),
            ([D, None], [(1, 1), None]),
            ([(1, 1), None], [(1, 1), None]),
            ([(1, 1), C], [(1, 1), None]),
            ([(1,), C], [(1, 1), None]),
            ([(1,), None], [(1, 1), None]),
        ])

    def test_no_deeds(self):
        for k, many in ((1, 0), (2, 3), (200, 100), (0, 0)):
            self.assertEqual(moments(SAMPLE, k, many, []), [fresh(k, many)])

    def test_without_a_shelf_place(self):
        self.assertEqual(
            moments(leaf("a"), 1, 0, [("take", "a", 0), ("take", "b", 0)]), [([None], []), ([()], []), ([None], [])]
        )

    def test_asked_another_way(self):
        source = random.Random(5)
        for tree in [SAMPLE, bushy(32), chain(24, "both")] + big_mixed(96):
            k, many = source.randrange(1, 7), source.randrange(4)
            row = wandering_row(source, tree, k, many, source.randrange(201))
            told = moments(tree, k, many, row)
            self.assertEqual(told, PlainMachine(tree).moments(k, many, row))
            self.assertEqual(len(told), len(row) + 1)

    def test_kinds(self):
        told = moments(SAMPLE, 2, 1, [("take", "a", 0), ("take", "b", 1), ("join", "g", 0, 1, 0), ("put", 0, 0)])
        self.assertIs(type(told), list)
        for state in told:
            self.assertEqual([type(state)] + [type(held) for held in state], [tuple, list, list])
            self.assertLessEqual(kinds_within(state), {tuple, list, int, type(None)})


class NoDeedTest(unittest.TestCase):
    def test_every_number_of_every_deed(self):
        for k, many in ((2, 2), (2, 5), (5, 2), (2, 1), (200, 100)):
            for deed in spoiled_deeds(k, many):
                assert_refused(self, NoDeed, marked, SAMPLE, deed, fresh(k, many))
                assert_refused(self, NoDeed, moments, SAMPLE, k, many, [deed])

    def test_behind_other_deeds(self):
        ahead = [("take", "a", 0), ("take", "b", 1), ("join", "g", 0, 1, 0), ("put", 0, 1), ("fetch", 1, 0)]
        self.assertEqual(len(moments(SAMPLE, 2, 2, ahead)), 6)
        for deed in spoiled_deeds(2, 2):
            assert_refused(self, NoDeed, moments, SAMPLE, 2, 2, ahead + [deed])
            assert_refused(self, NoDeed, moments, SAMPLE, 2, 2, ahead[:2] + [deed] + ahead[2:])
            assert_refused(self, NoDeed, moments, SAMPLE, 2, 2, [deed] + ahead)

    def test_without_a_shelf_place(self):
        for s in (0, 1, -1, BIG):
            assert_refused(self, NoDeed, marked, SAMPLE, ("put", 0, s), ([A, B], []))
            assert_refused(self, NoDeed, marked, SAMPLE, ("fetch", s, 0), ([A, B], []))
            assert_refused(self, NoDeed, moments, SAMPLE, 2, 0, [("take", "a", 0), ("put", 0, s)])
            assert_refused(self, NoDeed, moments, SAMPLE, 2, 0, [("take", "a", 0), ("fetch", s, 0)])

    def test_without_a_box(self):
        for deed in (("take", "a", 0), ("join", "g", 0, 0, 0), ("put", 0, 0), ("fetch", 0, 0)):
            assert_refused(self, NoDeed, marked, SAMPLE, deed, ([], [A]))
            assert_refused(self, NoDeed, moments, SAMPLE, 0, 1, [deed])

    def test_the_last_numbers_that_there_are(self):
        for k, many in ((1, 1), (3, 2), (200, 100)):
            for deed in (
                ("take", "a", k - 1), ("join", "g", k - 1, k - 1, k - 1), ("put", k - 1, many - 1),
                ("fetch", many - 1, k - 1),
            ):
                self.assertEqual(len(moments(SAMPLE, k, many, [deed])), 2)

    def test_the_state_stays(self):
        state = ([A, B], [C])
        for deed in spoiled_deeds(2, 1):
            self.assertRaises(NoDeed, marked, SAMPLE, deed, state)
            self.assertEqual(state, ([A, B], [C]))


class NothingKeptTest(unittest.TestCase):
    DEEDS = [("take", "a", 0), ("take", "b", 1), ("join", "g", 0, 1, 0), ("put", 0, 0), ("fetch", 0, 1)]

    def test_marked_gives_new_lists(self):
        # also where the deed changes nothing of what is held
        for state in (([A, B], [C]), ([None, None], [None]), ([A, A], [A])):
            before = copy.deepcopy(state)
            for deed in self.DEEDS:
                told, again = marked(SAMPLE, deed, state), marked(SAMPLE, deed, state)
                self.assertEqual(told, again)
                self.assertEqual(len({id(held) for held in lists_of([state, told, again])}), 6)
                for held in told:
                    held[0] = "scribble"
                    held.append("scribble")
                self.assertEqual(state, before)
                self.assertEqual(marked(SAMPLE, deed, state), again)

    def test_no_list_of_one_moment_is_a_list_of_another(self):
        row = self.DEEDS + self.DEEDS + [("take", "z", 0), ("take", "z", 0), ("put", 0, 0), ("put", 0, 0)]
        for k, many, deeds in ((2, 1, row), (2, 0, self.DEEDS[:3])):
            told, again = moments(SAMPLE, k, many, deeds), moments(SAMPLE, k, many, deeds)
            self.assertEqual(told, again)
            self.assertIsNot(told, again)
            every = lists_of(told) + lists_of(again)
            self.assertEqual(len({id(held) for held in every}), len(every))
            for at, state in enumerate(told):
                for held in state:
                    held.append("scribble")
                self.assertEqual(told[at + 1:], again[at + 1:])

    def test_what_is_handed_in_stays(self):
        tree, row = copy.deepcopy(SAMPLE), list(self.DEEDS)
        moments(tree, 2, 1, row)
        assert_refused(self, NoDeed, moments, tree, 2, 0, row)
        self.assertEqual((tree, row), (SAMPLE, self.DEEDS))


if __name__ == "__main__":
    unittest.main()
