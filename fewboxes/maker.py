"""The told row: a row of deeds that reckons a formula into box 0 with the least figures."""

from fewboxes.ranks import least, puts, rank
from fewboxes.trees import is_leaf


# Both sons need all boxes, so the right one's number waits on the shelf while the left one is reckoned.
# Only the left one must leave the shelf place alone: behind the put nothing else is asked of the right one.
def row_by_shelf(tree, k, shelf):
    right = row_into(tree[3], k, 0, shelf)
    left = row_into(tree[2], k, 0, shelf + 1)
    return right + [("put", 0, shelf)] + left + [("fetch", shelf, 1), ("join", tree[1], 0, 1, 0)]


# The son of the greater rank comes first, while all boxes from this one on are free: the other needs one less.
def row_by_boxes(tree, k, box, shelf):
    if rank(tree[2]) >= rank(tree[3]):
        sons = row_into(tree[2], k, box, shelf) + row_into(tree[3], k, box + 1, shelf)
        return sons + [("join", tree[1], box, box + 1, box)]
    sons = row_into(tree[3], k, box, shelf) + row_into(tree[2], k, box + 1, shelf)
    return sons + [("join", tree[1], box + 1, box, box)]


# Reckons a tree into a box, touching no box below it and no shelf place below shelf.
# The box is 0, or the tree's rank is at most k - box: so a knot that must put always has all boxes.
def row_into(tree, k, box, shelf):
    if is_leaf(tree):
        return [("take", tree[1], box)]
    if puts(tree, k):
        return row_by_shelf(tree, k, shelf)
    return row_by_boxes(tree, k, box, shelf)


def row_for(tree, k):
    # Asked for its refusal alone.
    least(tree, k)
    return row_into(tree, k, 0, 0)
