"""The machine's marks: which places of a formula its boxes and its shelf hold, None for nothing of it."""

from fewboxes.machine import check_deed, moved_value, state_behind
from fewboxes.trees import part_at, place_of


def fresh(k, many):
    return ([None] * k, [None] * many)


def knot_over(tree, f, left, right):
    if left is None or right is None:
        return None
    # The whole tree, (), is no knot's son: it is cut to itself, and then it is not itself and a step.
    place = left[:-1]
    if left != place + (0,) or right != place + (1,):
        return None
    return place if part_at(tree, place)[1] == f else None


def mark_brought(tree, deed, state):
    if deed[0] == "take":
        return place_of(tree, deed[1])
    if deed[0] == "join":
        return knot_over(tree, deed[1], state[0][deed[2]], state[0][deed[3]])
    return moved_value(deed, state)


def marked(tree, deed, state):
    check_deed(deed, state)
    return state_behind(deed, state, mark_brought(tree, deed, state))


def moments(tree, k, many, row):
    states = [fresh(k, many)]
    for deed in row:
        states.append(marked(tree, deed, states[-1]))
    return states


def formula_held(state):
    return () in state[0]
