"""Rings among needs, told as dicts from moments, in order, to what they need, in order."""


def steps_to(behind, places, goal):
    """The dict from the moments that rest on the goal to the least number of needs that lead there.

    Only moments that are not ahead of the goal, in order, count as steps.
    """
    steps = {goal: 0}
    found = [goal]
    while found:
        further = []
        for moment in found:
            for key in behind[moment]:
                if key not in steps and places[key] >= places[goal]:
                    steps[key] = steps[moment] + 1
                    further.append(key)
        found = further
    return steps


def ring_from(needs, behind, places, first):
    """The least one of the shortest rings in which a moment is the least one, [] without any."""
    steps = steps_to(behind, places, first)
    ring = []
    nearest = first
    while nearest != first or not ring:
        ring.append(nearest)
        chances = [need for need in needs[nearest] if need in steps]
        if not chances:
            return []
        least = min([int(steps[need]) for need in chances])
        nearest = [need for need in chances if steps[need] == least][0]
    return ring


def ring_of(needs, behind):
    """The told shortest ring, None without any."""
    places = {key: place for place, key in enumerate(needs)}
    best = None
    for first in needs:
        ring = ring_from(needs, behind, places, first)
        if ring and (best is None or len(ring) < len(best)):
            best = ring
    return best
