"""Places found by a search, in the order in which they compare: (cost, length of the address, address, point).

Inside a copy, addresses are relative to that copy; this does not change how two places inside it compare.
"""


def moved_out(found, cost, s):
    """Return a place found inside the copy in a slot, as it is seen from the copy around; to come there has a cost."""
    price, length, address, point = found
    return (cost + price, length + 1, (s,) + address, point)


def moved_down(found, cost, address):
    """Return a place found inside the copy at an address, as it is seen from the root; to come there has a cost."""
    price, length, inner, point = found
    return (cost + price, len(address) + length, address + inner, point)


def least_moved_down(options):
    """Return the least of the places that moved_down gives for options (found, cost, address), or None."""
    least = min([cost + found[0] for found, cost, _ in options], default=None)
    best = None
    for found, cost, address in options:
        # Long addresses are put together only where costs are equal.
        if cost + found[0] == least:
            best = lesser(best, moved_down(found, cost, address))
    return best


def lesser(best, found):
    """Return the lesser of two places, each of which may be None."""
    if best is None or (found is not None and found < best):
        return found
    return best


def as_answer(best):
    """Return (cost, place) for the best place, or None if there is none."""
    return None if best is None else (best[0], best[2:])
