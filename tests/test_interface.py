"""What the document promises over the whole program: names, arguments, and that nothing is changed or kept."""

import copy
import importlib
import inspect
import unittest

from fewboxes.maker import row_for
from fewboxes.marks import fresh, moments
from fewboxes.texts import read
from helper import bushy

INTERFACE = {
    "trees": ["is_name(text)", "formula(tree)", "places(tree)", "leaves(tree)", "part_at(tree, place)",
              "place_of(tree, x)"],
    "texts": ["show(tree)", "read(text)"],
    "ranks": ["rank(tree)", "must_put(tree, k)", "least(tree, k)"],
    "marks": ["fresh(k, many)", "marked(tree, deed, state)", "moments(tree, k, many, row)"],
    "numbers": ["reckoned(M, meaning, x, y)", "worth(M, meanings, tree, given)",
                "run(M, meanings, k, many, row, given)"],
    "maker": ["row_for(tree, k)"],
    "ways": ["open_way(tree, held)", "fullest(states)"],
    "matching": ["used_by(row, n)", "matched(tree, k, many, row)"],
    "rowtexts": ["show_row(row)", "read_row(text)"],
    "desk": ["judge(text, k, rowtext)"],
}
TREE = read("f(g(a b) g(c d))")
ROW = row_for(TREE, 2)
MEANINGS = {"f": (1, 1, 0, 0), "g": (0, 0, 1, 0)}
GIVEN = {"a": 2, "b": 3, "c": 4, "d": 5}
# What a call of each function is handed.
CALLS = {
    "is_name": ("abc",),
    "formula": (TREE,),
    "places": (TREE,),
    "leaves": (TREE,),
    "part_at": (TREE, (0, 1)),
    "place_of": (TREE, "c"),
    "show": (TREE,),
    "read": ("f(a b)",),
    "rank": (TREE,),
    "must_put": (bushy(8), 2),
    "least": (TREE, 2),
    "fresh": (2, 1),
    "marked": (TREE, ("take", "a", 0), fresh(2, 1)),
    "moments": (TREE, 2, 1, ROW),
    "reckoned": (100, (1, 2, 3, 4), 5, 6),
    "worth": (100, MEANINGS, TREE, GIVEN),
    "run": (100, MEANINGS, 2, 1, ROW, GIVEN),
    "row_for": (bushy(8), 2),
    "open_way": (TREE, [(0,), None]),
    "fullest": (moments(TREE, 2, 1, ROW),),
    "used_by": (ROW, [deed[0] for deed in ROW].index("put")),
    "matched": (TREE, 2, 1, ROW),
    "show_row": (ROW,),
    "read_row": ("take a 0; put 0 0",),
    "judge": ("a", 2, "take a 0"),
}


def functions():
    for module, written in INTERFACE.items():
        for one in written:
            name = one.partition("(")[0]
            yield name, getattr(importlib.import_module(f"fewboxes.{module}"), name), one


def lists_in(value):
    """The lists that lie in a value, itself among them."""
    found = [value] if isinstance(value, list) else []
    if isinstance(value, (list, tuple)):
        for thing in value:
            found += lists_in(thing)
    return found


class InterfaceTest(unittest.TestCase):
    def test_names_and_arguments(self):
        for name, function, written in functions():
            self.assertTrue(inspect.isfunction(function))
            self.assertEqual(name + str(inspect.signature(function)), written)

    def test_every_function_is_called_here(self):
        self.assertEqual([name for name, function, written in functions()], list(CALLS))

    def test_what_is_handed_in_stays(self):
        for name, function, written in functions():
            given = copy.deepcopy(CALLS[name])
            told = function(*given)
            self.assertEqual(given, CALLS[name], name)
            # nothing of it is kept: what is written into it behind the call changes no answer
            for held in lists_in(given):
                held.clear()
            self.assertEqual(function(*copy.deepcopy(CALLS[name])), told, name)

    def test_lists_that_are_given(self):
        for name, function, written in functions():
            given = copy.deepcopy(CALLS[name])
            first, second = function(*given), function(*given)
            self.assertEqual(first, second)
            every = lists_in(given) + lists_in(first) + lists_in(second)
            self.assertEqual(len({id(held) for held in every}), len(every), name)
            for held in lists_in(first):
                held.append("scribble")
            self.assertEqual(function(*given), second, name)

    def test_arguments_by_name(self):
        for name, function, written in functions():
            named = dict(zip(inspect.signature(function).parameters, CALLS[name]))
            self.assertEqual(function(**named), function(*CALLS[name]), name)


if __name__ == "__main__":
    unittest.main()
