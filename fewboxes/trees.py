"""Names, trees, their places, and which trees are formulas.

A tree is ("leaf", x) or ("knot", f, left, right). A place is a tuple of 0 and 1,
the steps from the top: 0 to the left son, 1 to the right one.
"""

from fewboxes.errors import NoName, TooBig, Twice

LONGEST_NAME = 8
MOST_LEAVES = 32
MOST_DEEP = 24


def is_name(text):
    return 1 <= len(text) <= LONGEST_NAME and all(["a" <= sign <= "z" for sign in text])


def is_leaf(tree):
    return tree[0] == "leaf"


def places(tree):
    found = [()]
    if is_leaf(tree):
        return found
    # A place ahead of those within it, left ahead of right: this is how tuples are sorted.
    for step in (0, 1):
        found.extend([(step,) + place for place in places(tree[2 + step])])
    return found


def leaves(tree):
    return [place for place in places(tree) if is_leaf(part_at(tree, place))]


def part_at(tree, place):
    part = tree
    for step in place:
        part = part[2 + step]
    return part


def place_of(tree, x):
    for place in leaves(tree):
        if part_at(tree, place)[1] == x:
            return place
    return None


def deeper_than(tree, bound):
    # The bound counts down, so that no tree leads to more calls within calls than the bound.
    if bound == 0:
        return True
    if is_leaf(tree):
        return False
    return deeper_than(tree[2], bound - 1) or deeper_than(tree[3], bound - 1)


def check_size(tree):
    # The depth is looked at first: leaves are then counted in trees of few levels alone.
    if deeper_than(tree, MOST_DEEP):
        raise TooBig(f"the tree is more than {MOST_DEEP} deep")
    if len(leaves(tree)) > MOST_LEAVES:
        raise TooBig(f"the tree has more than {MOST_LEAVES} leaves")


def check_names(tree):
    taken = {}
    for place in places(tree):
        part = part_at(tree, place)
        name = part[1]
        if not is_name(name):
            raise NoName(f"{name!r} at {place} is no name")
        if is_leaf(part):
            if name in taken:
                raise Twice(f"the leaf at {place} is called {name!r} like one ahead of it")
            taken[name] = True


def formula(tree):
    check_size(tree)
    check_names(tree)
    return tree
