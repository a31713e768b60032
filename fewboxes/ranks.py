"""Ranks: how many boxes a tree needs without a shelf, and what fewer boxes cost."""

from fewboxes.errors import TooFew
from fewboxes.trees import is_leaf, leaves, part_at, places


def rank(tree):
    if is_leaf(tree):
        return 1
    left = rank(tree[2])
    right = rank(tree[3])
    # Sons alike: while one is reckoned as the other was, the other's number fills one box more.
    if left == right:
        return left + 1
    return max(left, right)


def puts(tree, k):
    return not is_leaf(tree) and rank(tree[2]) >= k and rank(tree[3]) >= k


def must_put(tree, k):
    return [place for place in places(tree) if puts(part_at(tree, place), k)]


def least(tree, k):
    # One box is enough for a leaf alone: a join needs its two sons in two boxes.
    if k < 1 or (k == 1 and not is_leaf(tree)):
        raise TooFew(f"so many boxes are too few: {k}")
    takes = len(leaves(tree))
    joins = len(places(tree)) - takes
    shelved = len(must_put(tree, k))
    return (takes, joins, shelved, shelved)
