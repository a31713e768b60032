"""What a deed does to boxes and shelf, whatever they hold: places of a formula, or numbers.

A state is a tuple of two lists: what the boxes hold, what the shelf holds.
A deed is ("take", x, i), ("join", f, i, j, h), ("put", i, s) or ("fetch", s, i).
"""

from fewboxes.errors import NoDeed


def box_numbers(deed):
    if deed[0] == "join":
        return [deed[2], deed[3], deed[4]]
    if deed[0] == "put":
        return [deed[1]]
    return [deed[2]]


def shelf_numbers(deed):
    if deed[0] == "put":
        return [deed[2]]
    if deed[0] == "fetch":
        return [deed[1]]
    return []


def check_numbers(deed, asked, there):
    for number in asked:
        if not 0 <= number < there:
            raise NoDeed(f"there are {there}, and none has the number {number}: {deed!r}")


def check_deed(deed, state):
    check_numbers(deed, box_numbers(deed), len(state[0]))
    check_numbers(deed, shelf_numbers(deed), len(state[1]))


def moved_value(deed, state):
    if deed[0] == "put":
        return state[0][deed[1]]
    return state[1][deed[1]]


def state_behind(deed, state, value):
    # New lists, both: the state ahead is the asker's, and no two states may share one.
    boxes = list(state[0])
    shelf = list(state[1])
    # Every deed tells last where its value goes, and a put alone goes to the shelf.
    if deed[0] == "put":
        shelf[deed[-1]] = value
    else:
        boxes[deed[-1]] = value
    return (boxes, shelf)
