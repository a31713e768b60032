"""The desk: it judges a row's text by a formula's text and a number of boxes."""

from fewboxes.marks import formula_held, moments
from fewboxes.ranks import least
from fewboxes.rowtexts import read_row
from fewboxes.texts import read

SHELF_PLACES = 100
# A row's text tells box 9999 at most, so that boxes beyond it are never touched and need not be there.
BOXES_TOLD = 10000


def figures(row):
    kinds = [deed[0] for deed in row]
    return tuple([kinds.count(kind) for kind in ("take", "join", "put", "fetch")])


def judge(text, k, rowtext):
    tree = read(text)
    row = read_row(rowtext)
    fewest = least(tree, k)
    states = moments(tree, min(k, BOXES_TOLD), SHELF_PLACES, row)
    if not formula_held(states[-1]):
        return "not held"
    more = [has - need for has, need in zip(figures(row), fewest)]
    if not any(more):
        return "least"
    told = " ".join([str(number) for number in more])
    return f"held {told}"
