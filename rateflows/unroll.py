"""Rounds firing by firing: which firings each one needs."""

from rateflows.errors import TooMany
from rateflows.live import live_counts

MOST_UNROLLED = 120


def firings(flow):
    """Return the ascending tuple of the firings of a round."""
    counts = unrolled_counts(flow)
    return tuple([(box, number) for box, many in enumerate(counts) for number in range(many)])


def needs(flow):
    """Return the ascending tuple of the triples of a firing, one of a round that needs it, and rounds between."""
    counts = unrolled_counts(flow)
    found = {}
    for pipe in flow[1]:
        one, other = pipe[:2]
        for number in range(counts[other]):
            last = last_needed(pipe, number)
            # A number below 0 is that of a firing of rounds ago: -1 is the last one of the round before.
            step = ((one, last % counts[one]), (other, number), -(last // counts[one]))
            found[step] = True
    return tuple(sorted(list(found)))


def unrolled_counts(flow):
    """Return the counts of one round of a flow that lives, TooMany if they are too many to look at each firing."""
    counts = live_counts(flow)
    if sum(counts) > MOST_UNROLLED:
        raise TooMany(MOST_UNROLLED)
    return counts


def last_needed(pipe, number):
    """Return the number of the last firing of a pipe's one box that a firing of its other box needs.

    Both are counted on from round to round; a number below 0 is that of a firing ahead of the first round.
    """
    _, _, give, eat, start = pipe
    return ((number + 1) * eat - start - 1) // give
