"""Ways from a formula's top to its leaves, which of them stand open, and the fullest of some moments."""

from fewboxes.trees import leaves


def stands_open(place, held):
    # The places on a way are the beginnings of its leaf's place, from () to that place itself.
    return not any([place[:steps] in held for steps in range(len(place) + 1)])


def open_way(tree, held):
    for place in leaves(tree):
        if stands_open(place, held):
            return place
    return None


def fullest(states):
    sizes = [len([place for place in state[0] if place is not None]) for state in states]
    size = max(sizes)
    return (sizes.index(size), size)
