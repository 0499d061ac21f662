"""Rings among needs, told as dicts from moments, in order, to what they need, in order."""


def steps_to(behind, goal):
    """The dict from the moments that rest on the goal to the least number of needs that lead there."""
    steps = {goal: 0}
    found = [goal]
    while found:
        further = []
        for moment in found:
            for key in behind[moment]:
                if key not in steps:
                    steps[key] = steps[moment] + 1
                    further.append(key)
        found = further
    return steps


def ring_from(needs, behind, first):
    """The least one of the shortest rings that begin with a moment, [] without any."""
    steps = steps_to(behind, first)
    ring = []
    nearest = first
    while nearest != first or not ring:
        ring.append(nearest)
        chances = [need for need in needs[nearest] if need in steps]
        if not chances:
            return []
        least = min([int(steps[need]) for need in chances])
        nearest = [need for need in chances if steps[need] == least][0]
    return ring


def ring_of(needs, behind):
    """The told shortest ring, None without any."""
    best = None
    # Of rings of one length the first one that is found begins with the least moment of all of them.
    for first in needs:
        ring = ring_from(needs, behind, first)
        if ring and (best is None or len(ring) < len(best)):
            best = ring
    return best
