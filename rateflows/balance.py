"""Balance: counts of firings that leave all pipes as they were, and rings of steps that show that there are none."""

from math import gcd, lcm

from rateflows.checks import check_flow, is_number, is_row
from rateflows.errors import NotBalanced
from rateflows.flows import parts


def is_balanced(flow):
    """Tell whether there are counts of firings, not 0 for any box, that leave all pipes as they were."""
    return tilt(flow) is None


def repetitions(flow):
    """Return the tuple of the least counts that leave all pipes as they were, least for each part alone."""
    check_balanced(flow)
    shares = {box: rate_along(flow[1], steps) for box, steps in trails(flow).items()}
    counts = {}
    for part in parts(flow):
        # The share of the least box is 1, so the counts have no common divisor when all shares become whole.
        whole = 1
        for box in part:
            whole = lcm(whole, shares[box][1])
        for box in part:
            counts[box] = shares[box][0] * whole // shares[box][1]
    return tuple([counts[box] for box in range(flow[0])])


def tilt(flow):
    """Return a ring of steps whose rates multiply to another number than 1, None for a balanced flow."""
    check_flow(flow)
    known = trails(flow)
    # If each pipe closes a ring of the rate 1 with the trails to its boxes, all other rings have the rate 1 too.
    for place, pipe in enumerate(flow[1]):
        ring = ring_through(place, known[pipe[0]], known[pipe[1]])
        if rate_along(flow[1], ring) != (1, 1):
            return ring
    return None


def shows_tilt(flow, value):
    """Tell whether a value is a ring that tilt may return, or None for a balanced flow."""
    if tilt(flow) is None:
        return value is None
    return is_ring(flow[1], value) and rate_along(flow[1], value) != (1, 1)


def check_balanced(flow):
    """Raise NotBalanced unless a flow is balanced."""
    if tilt(flow) is not None:
        raise NotBalanced("some pipe can't stay as it was")


def common_count(counts, some):
    """Return the greatest common divisor of the counts of some boxes."""
    common = 0
    for box in some:
        common = gcd(common, counts[box])
    return common


def trails(flow):
    """Return a dict of the tuples of steps that lead to each box from the least one of its part."""
    pipes = flow[1]
    found = {}
    for part in parts(flow):
        found[part[0]] = ()
        for step in spreading_steps(pipes, part[0]):
            here, there = step_boxes(pipes, step)
            found[there] = found[here] + (step,)
    return found


def spreading_steps(pipes, root):
    """Return a list of steps that lead from a box to all of its part, each from a box met before to a new one."""
    met = {root: True}
    waiting = [root]
    steps = []
    while waiting:
        box = waiting.pop()
        for step in steps_from(pipes, box):
            there = step_boxes(pipes, step)[1]
            if there not in met:
                met[there] = True
                waiting.append(there)
                steps.append(step)
    return steps


def steps_from(pipes, box):
    """Return the list of the steps that lead from a box."""
    forward = [(place, True) for place, pipe in enumerate(pipes) if pipe[0] == box]
    return forward + [(place, False) for place, pipe in enumerate(pipes) if pipe[1] == box]


def step_boxes(pipes, step):
    """Return the box from which a step leads and the box to which it leads."""
    place, forward = step
    one, other = pipes[place][:2]
    return (one, other) if forward else (other, one)


def rate_along(pipes, steps):
    """Return the ratio to which the rates of steps multiply."""
    above, below = 1, 1
    for place, forward in steps:
        give, eat = pipes[place][2:4]
        above *= give if forward else eat
        below *= eat if forward else give
        common = gcd(above, below)
        above, below = above // common, below // common
    return above, below


def ring_through(place, to_one, to_other):
    """Return the ring of steps along a pipe and the trails to its boxes, without what these have in common."""
    while to_one and to_other and to_one[0] == to_other[0]:
        to_one, to_other = to_one[1:], to_other[1:]
    return to_one + ((place, True),) + tuple([(pipe, not forward) for pipe, forward in to_other[::-1]])


def is_step(pipes, value):
    """Tell whether a value is a step along one of the pipes."""
    return is_row(value, 2) and is_number(value[0], 0, len(pipes) - 1) and isinstance(value[1], bool)


def is_ring(pipes, value):
    """Tell whether a value is a ring of steps."""
    if not isinstance(value, tuple) or not value:
        return False
    if not all([is_step(pipes, step) for step in value]):
        return False
    rows = [step_boxes(pipes, step) for step in value]
    # The step before the first one is the last one.
    return all([rows[at - 1][1] == rows[at][0] for at in range(len(rows))])
