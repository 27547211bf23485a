"""Tokens that come from those of a flow."""

from rateflows.balance import check_balanced, spreading_steps
from rateflows.checks import MOST_FIRINGS, check_flow, check_marks
from rateflows.doing import left_on, most_counts
from rateflows.errors import TooMany
from rateflows.firing import held_behind, short_pipes
from rateflows.flows import marks, parts

MOST_MARKS = 1000


def counts_to(flow, some):
    """Return the least counts with which words lead to tokens, None without any."""
    check_balanced(flow)
    check_marks(flow, some)
    found = {}
    for part in parts(flow):
        counts = least_counts(flow[1], some, part[0])
        if counts is None:
            return None
        for box in part:
            found[box] = counts[box]
    counts = tuple([found[box] for box in range(flow[0])])
    # Counts that are rounds greater can't be done if these can't: what these leave waits for itself.
    if sum(counts) > MOST_FIRINGS or left_on(flow[1], counts) != some or most_counts(flow[1], counts) != counts:
        return None
    return counts


def comes(flow, some):
    """Tell whether a word leads to tokens."""
    return counts_to(flow, some) is not None


def all_come(flow):
    """Return the ascending list of all tokens that come, those of the flow among them."""
    check_flow(flow)
    boxes, pipes = flow
    found = {marks(flow): True}
    waiting = [marks(flow)]
    while waiting:
        held = waiting.pop()
        for box in range(boxes):
            if short_pipes(pipes, held, box):
                continue
            behind = held_behind(pipes, held, box)
            if behind in found:
                continue
            if len(found) == MOST_MARKS:
                raise TooMany(MOST_MARKS)
            found[behind] = True
            waiting.append(behind)
    return sorted(list(found))


def least_counts(pipes, some, root):
    """Return a dict of the least counts that may lead a box and all of its part to tokens, None without any."""
    steps = spreading_steps(pipes, root)
    # The counts of one box settle those of its part; a word has no more firings of it.
    for first in range(MOST_FIRINGS + 1):
        counts = counts_along(pipes, some, steps, {root: first})
        if counts is not None:
            return counts
    return None


def counts_along(pipes, some, steps, first):
    """Return a dict of the counts that lead the pipes of steps to tokens, None if they are not whole or below 0."""
    counts = dict(first)
    for place, forward in steps:
        one, other, give, eat, start = pipes[place]
        more = some[place] - start
        if forward:
            box, tokens, rate = other, give * counts[one] - more, eat
        else:
            box, tokens, rate = one, eat * counts[other] + more, give
        if tokens < 0 or tokens % rate:
            return None
        counts[box] = tokens // rate
    return counts
