"""Why a row has no fewer puts and fetches: each knot that must put is given one of each as its own."""

from fewboxes.errors import NotHeld
from fewboxes.machine import moved_value, shelf_numbers
from fewboxes.marks import formula_held, moments
from fewboxes.ranks import must_put


def used_by(row, n):
    shelf = row[n][2]
    for at in range(n + 1, len(row)):
        deed = row[at]
        if shelf in shelf_numbers(deed):
            return at if deed[0] == "fetch" else None
    return None


# Gives a list of tuples (place, put, fetch): the place that is put, the put's number, its fetch's number.
def used_puts(row, states):
    found = []
    for put, deed in enumerate(row):
        if deed[0] == "put":
            place = moved_value(deed, states[put])
            fetch = used_by(row, put)
            if place is not None and fetch is not None:
                found.append((place, put, fetch))
    return found


def lies_within(place, knot):
    return len(place) > len(knot) and place[:len(knot)] == knot


def matched(tree, k, many, row):
    states = moments(tree, k, many, row)
    if not formula_held(states[-1]):
        raise NotHeld("behind the row no box holds the formula")
    unmatched = used_puts(row, states)
    found = []
    # Inner knots choose first. What lies within one lies within each knot around it, and within each knot there
    # are at least as many used puts as knots that must put, itself among them: so whatever inner ones choose,
    # one is left for the outer.
    for knot in reversed(must_put(tree, k)):
        chosen = [used for used in unmatched if lies_within(used[0], knot)][0]
        unmatched.remove(chosen)
        found.append((knot, chosen[1], chosen[2]))
    return list(reversed(found))
