"""Flows put together, and their boxes renamed."""

from itertools import permutations

from rateflows.checks import MOST_BOXES, MOST_PIPES, check_flow, check_order, is_number
from rateflows.errors import BadPipe, TooMany

MOST_RENAMED = 6


def renamed(flow, order):
    """Return the flow in which each box is the one at its place in an order, with its pipes in ascending order."""
    check_flow(flow)
    check_order(flow, order)
    return in_order(flow, order)


def least_form(flow):
    """Return the least flow of those with renamed boxes."""
    check_flow(flow)
    if flow[0] > MOST_RENAMED:
        raise TooMany(MOST_RENAMED)
    return min([in_order(flow, order) for order in permutations(range(flow[0]))])


def beside(flow, other):
    """Return two flows beside one another as one flow."""
    check_flow(flow)
    check_flow(other)
    first = flow[0]
    if first + other[0] > MOST_BOXES:
        raise TooMany(MOST_BOXES)
    if len(flow[1]) + len(other[1]) > MOST_PIPES:
        raise TooMany(MOST_PIPES)
    return first + other[0], flow[1] + tuple([(first + pipe[0], first + pipe[1]) + pipe[2:] for pipe in other[1]])


def without_pipe(flow, pipe):
    """Return the flow without a pipe."""
    check_flow(flow)
    if not is_number(pipe, 0, len(flow[1]) - 1):
        raise BadPipe("no pipe of the flow")
    return flow[0], flow[1][:pipe] + flow[1][pipe + 1:]


def in_order(flow, order):
    """Return the flow in which each box is the one at its place in an order, with its pipes in ascending order."""
    pipes = [(order.index(pipe[0]), order.index(pipe[1])) + pipe[2:] for pipe in flow[1]]
    return flow[0], tuple(sorted(pipes))
