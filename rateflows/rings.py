"""Rings of steps from firing to firing, and their means."""

from math import gcd

from rateflows.checks import is_row, is_whole
from rateflows.unroll import needs


def all_steps(flow, counts):
    """Return the list of all steps: each to a firing from one that it needs, or from the one before of its box."""
    steps = list(needs(flow))
    for box, many in enumerate(counts):
        steps.extend([((box, number), (box, number + 1), 0) for number in range(many - 1)])
        steps.append(((box, many - 1), (box, 0), 1))
    return steps


def ring_mean(ring, times):
    """Return the mean of a ring of steps, as a ratio."""
    time = sum([times[first[0]] for first, _, _ in ring])
    rounds = sum([ago for _, _, ago in ring])
    common = gcd(time, rounds)
    return time // common, rounds // common


def is_greater(mean, other):
    """Tell whether a ratio is greater than another one."""
    return mean[0] * other[1] > other[0] * mean[1]


def slowest_ring(steps, times):
    """Return a ring of some steps, among which there is one, with the greatest mean."""
    found = slower_ring(steps, times, (0, 1))
    ring = found
    while found is not None:
        ring = found
        found = slower_ring(steps, times, ring_mean(ring, times))
    return ring


def slower_ring(steps, times, mean):
    """Return a ring of some steps with a greater mean, None without any."""
    time, rounds = mean
    worth = {second: 0 for _, second, _ in steps}
    last = {}
    moved = True
    # A ring has a greater mean if its steps are worth more than 0 together; no other closes among the last steps.
    while moved:
        moved = False
        for step in steps:
            first, second, ago = step
            more = worth[first] + rounds * times[first[0]] - time * ago
            if more > worth[second]:
                worth[second] = more
                last[second] = step
                moved = True
        ring = closed_ring(last)
        if ring is not None:
            return ring
    return None


def closed_ring(last):
    """Return a ring of the steps that last led to each firing, None without any."""
    met = {}
    for start in last:
        firing = start
        while firing in last and firing not in met:
            met[firing] = start
            firing = last[firing][0]
        # What was met from another start leads to no ring, or it would have been returned.
        if firing in last and met[firing] == start:
            return ring_to(last, firing)
    return None


def ring_to(last, firing):
    """Return the ring of the steps that last led to each firing, from a firing back to it."""
    ring = [last[firing]]
    while ring[0][0] != firing:
        ring.insert(0, last[ring[0][0]])
    return tuple(ring)


def is_ring(steps, value):
    """Tell whether a value is a ring of some steps."""
    if not isinstance(value, tuple) or not value:
        return False
    known = {step: True for step in steps}
    if not all([is_like_step(step) and step in known for step in value]):
        return False
    # The step before the first one is the last one.
    return all([value[at - 1][1] == value[at][0] for at in range(len(value))])


def is_like_step(value):
    """Tell whether a value is a triple of two pairs of integers, and an integer."""
    if not is_row(value, 3) or not is_row(value[0], 2) or not is_row(value[1], 2):
        return False
    # True and False would be found among the steps as 1 and 0.
    return all([is_whole(number) for number in value[0] + value[1] + value[2:]])
