"""The texts of formulas: a leaf's is its name, a knot's is built like f(g(a b) c)."""

from fewboxes.errors import FewError, NoText
from fewboxes.trees import MOST_DEEP, formula, is_leaf


def show(tree):
    name = tree[1]
    if is_leaf(tree):
        return name
    left = show(tree[2])
    right = show(tree[3])
    return f"{name}({left} {right})"


def name_end(text, start):
    end = start
    while end < len(text) and text[end] not in "( )":
        end += 1
    return end


def past(text, at, sign):
    if text[at:at + 1] != sign:
        raise NoText(f"no {sign!r} at sign {at} of {text!r}")
    return at + 1


# Gives a tuple: the tree whose text begins at start, and where that text ends.
# Its names are not looked at: formula looks at them when the whole tree is there.
def tree_from(text, start, level):
    # Refused here, not by formula: hundreds of brackets would be hundreds of calls within calls.
    if level > MOST_DEEP:
        raise NoText(f"more than {MOST_DEEP} deep: {text!r}")
    end = name_end(text, start)
    name = text[start:end]
    if text[end:end + 1] != "(":
        return (("leaf", name), end)
    left = tree_from(text, end + 1, level + 1)
    right = tree_from(text, past(text, left[1], " "), level + 1)
    return (("knot", name, left[0], right[0]), past(text, right[1], ")"))


def read(text):
    found = tree_from(text, 0, 1)
    if found[1] != len(text):
        raise NoText(f"signs behind the end of a formula: {text!r}")
    try:
        return formula(found[0])
    except FewError as wrong:
        raise NoText(f"no formula's text: {text!r}") from wrong
