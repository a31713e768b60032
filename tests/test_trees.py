import copy
import unittest

from fewboxes.errors import NoName, TooBig, Twice
from fewboxes.trees import formula, is_name, leaves, part_at, place_of, places
from helper import ALL_SIGNS, LETTERS, SIDES, assert_refused, bushy, chain, knot, leaf, numbered_name, shapes

# f(g(a bb) h(c g(dog e)))
SAMPLE = knot("f", knot("g", leaf("a"), leaf("bb")), knot("h", leaf("c"), knot("g", leaf("dog"), leaf("e"))))
SAMPLE_PLACES = [(), (0,), (0, 0), (0, 1), (1,), (1, 0), (1, 1), (1, 1, 0), (1, 1, 1)]


class NameTest(unittest.TestCase):
    def test_length(self):
        for size in range(0, 200):
            self.assertIs(is_name("q" * size), 1 <= size <= 8, size)
        self.assertIs(is_name("abcdefgh"), True)
        self.assertIs(is_name("abcdefghi"), False)

    def test_every_sign_at_every_place(self):
        for size in range(1, 9):
            for place in range(size):
                for sign in ALL_SIGNS:
                    text = "m" * place + sign + "m" * (size - place - 1)
                    self.assertIs(is_name(text), sign in LETTERS, text)

    def test_samples(self):
        for text in ("a", "z", "az", "leaf", "knot", "take", "zzzzzzzz"):
            self.assertIs(is_name(text), True, text)
        for text in ("", " ", "A", "Z", "aB", "Ba", "a1", "1a", "a b", " a", "a ", "a_b", "`", "{", "a(", "()"):
            self.assertIs(is_name(text), False, text)


class PlaceTest(unittest.TestCase):
    def test_places_of_a_leaf(self):
        self.assertEqual(places(leaf("a")), [()])
        self.assertEqual(leaves(leaf("a")), [()])

    def test_places(self):
        self.assertEqual(places(SAMPLE), SAMPLE_PLACES)

    def test_leaves(self):
        self.assertEqual(leaves(SAMPLE), [(0, 0), (0, 1), (1, 0), (1, 1, 0), (1, 1, 1)])

    def test_kinds(self):
        for told in (places(SAMPLE), leaves(SAMPLE)):
            self.assertIs(type(told), list)
            for place in told:
                self.assertIs(type(place), tuple)
                for step in place:
                    self.assertIs(type(step), int)

    def test_order_is_that_of_tuples(self):
        trees = [tree for many in range(1, 7) for tree in shapes(many)]
        trees += [bushy(32)] + [chain(24, side) for side in SIDES]
        for tree in trees:
            told = places(tree)
            self.assertEqual(told[0], ())
            self.assertEqual(told, sorted(told))
            self.assertEqual(len(set(told)), len(told))
            ends = leaves(tree)
            self.assertEqual(len(told), 2 * len(ends) - 1)
            self.assertEqual(ends, [place for place in told if part_at(tree, place)[0] == "leaf"])
            # the leaves are called one after another, from left to right
            if len(ends) < 7:
                self.assertEqual("".join(part_at(tree, place)[1] for place in ends), LETTERS[:len(ends)])

    def test_part_at(self):
        self.assertEqual(part_at(leaf("a"), ()), leaf("a"))
        expected = [
            SAMPLE, SAMPLE[2], leaf("a"), leaf("bb"), SAMPLE[3], leaf("c"),
            knot("g", leaf("dog"), leaf("e")), leaf("dog"), leaf("e"),
        ]
        self.assertEqual([part_at(SAMPLE, place) for place in SAMPLE_PLACES], expected)

    def test_part_at_the_end_of_a_chain(self):
        self.assertEqual(part_at(chain(24, "left"), (0,) * 23), leaf("aa"))
        self.assertEqual(part_at(chain(24, "right"), (1,) * 23), leaf("aa"))

    def test_place_of(self):
        self.assertEqual(place_of(leaf("a"), "a"), ())
        for x, place in (("a", (0, 0)), ("bb", (0, 1)), ("c", (1, 0)), ("dog", (1, 1, 0)), ("e", (1, 1, 1))):
            self.assertEqual(place_of(SAMPLE, x), place)

    def test_place_of_every_leaf(self):
        for tree in [bushy(32)] + [chain(24, side) for side in SIDES]:
            for place in leaves(tree):
                self.assertEqual(place_of(tree, part_at(tree, place)[1]), place)

    def test_place_of_no_leaf(self):
        self.assertIs(place_of(leaf("a"), "b"), None)
        # deeds' names, beginnings and ends of leaves' names, longer ones, one that is nowhere
        for x in ("f", "g", "h", "b", "d", "do", "og", "aa", "bbb", "dogs", "z"):
            self.assertIs(place_of(SAMPLE, x), None, x)

    def test_place_of_a_leaf_that_is_called_like_a_deed(self):
        tree = knot("a", knot("b", leaf("c"), leaf("b")), leaf("a"))
        self.assertEqual([place_of(tree, x) for x in "abc"], [(1,), (0, 1), (0, 0)])


class FormulaTest(unittest.TestCase):
    def refused(self, kind, tree):
        assert_refused(self, kind, formula, tree)

    def test_given(self):
        for tree in (leaf("a"), leaf("abcdefgh"), SAMPLE):
            self.assertEqual(formula(tree), tree)

    def test_deeds_may_be_called_alike(self):
        for tree in (
            knot("f", knot("f", leaf("a"), leaf("b")), knot("f", leaf("c"), leaf("d"))),
            knot("a", leaf("a"), leaf("b")),
            knot("b", leaf("a"), leaf("b")),
            knot("a", knot("b", leaf("b"), leaf("a")), leaf("c")),
            knot("f", leaf("leaf"), knot("knot", leaf("knot"), leaf("f"))),
        ):
            self.assertEqual(formula(tree), tree)

    def test_how_many_leaves(self):
        for many in range(1, 33):
            self.assertEqual(formula(bushy(many)), bushy(many))
        for many in (33, 34, 64, 100):
            self.refused(TooBig, bushy(many))

    def test_leaves_on_one_side(self):
        self.assertEqual(len(leaves(formula(knot("f", bushy(31), leaf("zz"))))), 32)
        self.refused(TooBig, knot("f", bushy(32), leaf("zz")))
        self.refused(TooBig, knot("f", leaf("zz"), bushy(32)))

    def test_how_deep(self):
        for side in SIDES:
            for deep in range(1, 25):
                self.assertEqual(formula(chain(deep, side)), chain(deep, side))
            for deep in (25, 26, 32, 33, 60, 100):
                self.refused(TooBig, chain(deep, side))

    def test_deep_on_one_side(self):
        for side in SIDES:
            self.refused(TooBig, knot("f", chain(24, side), leaf("zz")))
            self.refused(TooBig, knot("f", leaf("zz"), chain(24, side)))
            tree = knot("f", leaf("zz"), chain(23, side))
            self.assertEqual(formula(tree), tree)

    def test_both_bounds_at_once(self):
        tree = chain(16, "left")
        for number in range(16, 24):
            tree = knot("f", tree, knot("f", leaf(numbered_name(2 * number)), leaf(numbered_name(2 * number + 1))))
        self.assertEqual(len(leaves(tree)), 32)
        self.assertEqual(formula(tree), tree)

    def test_too_big_ahead_of_names(self):
        for wrong in ("", "A", "ninesigns", "aa"):
            self.refused(TooBig, knot("f", leaf(wrong), bushy(32)))
            self.refused(TooBig, knot("f", bushy(32), leaf(wrong)))
            self.refused(TooBig, knot("f", leaf(wrong), chain(24, "left")))
            self.refused(TooBig, knot("f", chain(24, "right"), leaf(wrong)))
        self.refused(TooBig, knot("", bushy(32), leaf("zz")))
        self.refused(TooBig, knot("F", chain(24, "both"), leaf("zz")))

    def test_no_name(self):
        for wrong in ("", "A", "aB", "a b", " a", "a ", "a1", "ninesigns", "(", "f(a b)"):
            self.refused(NoName, leaf(wrong))
            self.refused(NoName, knot(wrong, leaf("a"), leaf("b")))
            self.refused(NoName, knot("f", leaf(wrong), leaf("b")))
            self.refused(NoName, knot("f", leaf("a"), leaf(wrong)))
            self.refused(NoName, knot("f", leaf("a"), knot(wrong, leaf("b"), leaf("c"))))
            # the later of the two is a leaf with a name of a leaf ahead, and no name
            self.refused(NoName, knot("f", leaf(wrong), leaf(wrong)))

    def test_twice(self):
        self.refused(Twice, knot("f", leaf("a"), leaf("a")))
        self.refused(Twice, knot("f", knot("f", leaf("a"), leaf("b")), leaf("a")))
        self.refused(Twice, knot("f", leaf("b"), knot("f", leaf("a"), leaf("b"))))
        self.refused(Twice, knot("f", leaf("abcdefgh"), leaf("abcdefgh")))
        self.refused(Twice, knot("f", bushy(31), leaf(numbered_name(30))))

    def test_names_that_are_almost_alike(self):
        tree = knot("f", knot("f", leaf("a"), leaf("aa")), leaf("aaa"))
        self.assertEqual(formula(tree), tree)

    def test_the_first_wrong_place(self):
        bad, again = leaf("A"), knot("f", leaf("a"), leaf("a"))
        self.refused(NoName, knot("f", bad, again))
        self.refused(Twice, knot("f", again, bad))
        self.refused(Twice, knot("f", again, knot("F", leaf("b"), leaf("c"))))
        # the wrong place is the later leaf, behind another wrong one in between
        self.refused(NoName, knot("f", leaf("a"), knot("f", bad, leaf("a"))))
        self.refused(NoName, knot("f", leaf("a"), knot("F", leaf("b"), leaf("a"))))
        self.refused(Twice, knot("f", leaf("a"), knot("f", leaf("a"), bad)))

    def test_a_knot_ahead_of_its_sons(self):
        again = knot("f", leaf("a"), leaf("a"))
        self.refused(NoName, knot("", leaf("a"), leaf("a")))
        self.refused(NoName, knot("F", again, leaf("b")))
        self.refused(NoName, knot("f", leaf("b"), knot("F", leaf("a"), leaf("a"))))

    def test_the_left_side_as_deep_as_it_goes_ahead_of_the_right(self):
        deep_again = knot("f", leaf("x"), knot("g", leaf("y"), knot("h", leaf("z"), leaf("x"))))
        self.refused(Twice, knot("f", deep_again, leaf("")))
        self.refused(NoName, knot("f", leaf(""), deep_again))


class NothingKeptTest(unittest.TestCase):
    def test_what_is_handed_in_stays(self):
        for tree in (leaf("a"), SAMPLE, bushy(32), chain(24, "both"), knot("f", leaf("a"), leaf("a"))):
            before = copy.deepcopy(tree)
            places(tree)
            leaves(tree)
            place_of(tree, "a")
            part_at(tree, ())
            try:
                formula(tree)
            except Twice:
                pass
            self.assertEqual(tree, before)

    def test_lists_are_the_askers_own(self):
        for tree in (leaf("a"), SAMPLE):
            for ask in (places, leaves):
                first, second = ask(tree), ask(tree)
                self.assertIsNot(first, second)
                expected = list(second)
                first.append("scribble")
                first[0] = "scribble"
                self.assertEqual(second, expected)
                self.assertEqual(ask(tree), expected)
        self.assertIsNot(places(leaf("a")), leaves(leaf("a")))

    def test_the_same_each_time(self):
        for times in range(3):
            self.assertEqual(formula(leaf("a")), leaf("a"))
            self.assertEqual(formula(SAMPLE), SAMPLE)
            self.assertRaises(Twice, formula, knot("f", leaf("a"), leaf("a")))


if __name__ == "__main__":
    unittest.main()
