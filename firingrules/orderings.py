"""Pairs of names as an order: what they contain, and their rings."""


def closed(pairs):
    """Return the ascending list of the pairs of the least order that contains these."""
    names = sorted({name for pair in pairs for name in pair})
    found = {pair: True for pair in pairs}
    for middle in names:
        for one in names:
            for other in names:
                if (one, middle) in found and (middle, other) in found:
                    found[(one, other)] = True
    return sorted(found)


def steps_to(pairs, goal):
    """Return, for each name from which pairs lead to the goal, the fewest steps."""
    steps = {goal: 0}
    todo = [goal]
    at = 0
    while at < len(todo):
        for one, other in pairs:
            if other == todo[at] and one not in steps:
                steps[one] = steps[other] + 1
                todo.append(one)
        at += 1
    return steps


def ring_from(pairs, start):
    """Return the shortest ring that begins with a name, of several the least, or None."""
    steps = steps_to(pairs, start)
    ring = [start]
    while True:
        nearest = [(steps[other], other) for one, other in pairs if one == ring[-1] and other in steps]
        if len(nearest) == 0:
            return None
        _, name = min(nearest)
        if name == start:
            return ring
        ring.append(name)


def least_ring(pairs):
    """Return the shortest ring of the pairs, of several the least, or None."""
    rings = [ring_from(pairs, start) for start in sorted({one for one, _ in pairs})]
    found = [(len(ring), ring) for ring in rings if ring is not None]
    if len(found) == 0:
        return None
    return min(found)[1]
