"""What deeds reckon: numbers from 0 to M - 1, of trees read plainly and in the machine."""

from fewboxes.machine import check_deed, moved_value, state_behind
from fewboxes.trees import is_leaf


def reckoned(M, meaning, x, y):
    return (meaning[0] * x + meaning[1] * y + meaning[2] * x * y + meaning[3]) % M


def worth(M, meanings, tree, given):
    if is_leaf(tree):
        return given[tree[1]]
    left = worth(M, meanings, tree[2], given)
    right = worth(M, meanings, tree[3], given)
    return reckoned(M, meanings[tree[1]], left, right)


def number_brought(M, meanings, deed, state, given):
    if deed[0] == "take":
        return given[deed[1]]
    if deed[0] == "join":
        return reckoned(M, meanings[deed[1]], state[0][deed[2]], state[0][deed[3]])
    return moved_value(deed, state)


def run(M, meanings, k, many, row, given):
    state = ([0] * k, [0] * many)
    for deed in row:
        check_deed(deed, state)
        state = state_behind(deed, state, number_brought(M, meanings, deed, state, given))
    return state[0]
