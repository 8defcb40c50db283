"""The expansion of a root map, written out copy by copy: slow, and plainly what [11] to [15] say."""


def copies(atlas, root, depth):
    """Return a dict from the address of each copy, of at most so many indexes, to its map."""
    maps = {chart[0]: chart for chart in atlas}
    found = {(): maps[root]}
    level = [()]
    for _ in range(depth):
        level = [address + (s,) for address in level for s in range(len(found[address][3]))]
        for address in level:
            found[address] = maps[found[address[:-1]][3][address[-1]]]
    return found


def places_of(chart, address):
    """Return the places of the copy at the address."""
    nodes = [(address, ("node", j)) for j in range(len(chart[2]))]
    return nodes + [(address, ("port", i)) for i in range(chart[1])]


def place(address, point):
    """Return the place of a point of a copy."""
    if point[0] == "slot":
        return address + (point[1],), ("port", point[2])
    return address, point


def steps(found):
    """Return all steps by edges of these copies, as a dict from each source place to a list of (target, cost)."""
    made = {}
    for address, chart in found.items():
        for source, target, cost in chart[4]:
            made.setdefault(place(address, source), []).append((place(address, target), cost))
    return {source: sorted(targets) for source, targets in made.items()}


def costs_from(all_steps, start, budget):
    """Return the least cost of each place that can be reached within the budget, by relaxing until nothing changes."""
    costs = {start: 0}
    changed = [start]
    while changed:
        here = changed.pop()
        for target, cost in all_steps.get(here, []):
            total = costs[here] + cost
            if total <= budget and total < costs.get(target, budget + 1):
                costs[target] = total
                changed.append(target)
    return costs
