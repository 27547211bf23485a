"""Rounds: what can be fired for ever, and how often the rest."""

from rateflows.balance import repetitions
from rateflows.checks import MOST_FIRINGS
from rateflows.doing import least_word, left_on, most_counts
from rateflows.errors import NotLive, TooMany


def is_live(flow):
    """Tell whether a round of a balanced flow can be done."""
    counts = round_counts(flow)
    return most_counts(flow[1], counts) == counts


def round_word(flow):
    """Return the least word of one round of a flow that lives."""
    counts = live_counts(flow)
    return least_word(flow[1], counts)


def endless(flow):
    """Return the ascending tuple of the boxes that can be fired for ever."""
    return tuple([box for box, many in enumerate(most_ever(flow)) if many is None])


def most_ever(flow):
    """Return the tuple, for each box, of how often it can be fired at most, None for ever."""
    going = round_counts(flow)
    pipes = flow[1]
    fired = [0 for _ in going]
    while any(going):
        done = most_counts(pipes, going)
        if done == going:
            rounds = rounds_left(pipes, going)
            if rounds is None:
                break
            done = tuple([rounds * many for many in going])
        else:
            # A box that a round leaves lacks what another such box, or one that has stopped, should give: never one
            # that does all its firings of the round. So none of these boxes is ever fired again.
            going = tuple([most if most == many else 0 for most, many in zip(going, done)])
        fired = [before + many for before, many in zip(fired, done)]
        pipes = [pipe[:4] + (tokens,) for pipe, tokens in zip(pipes, left_on(pipes, done))]
    return tuple([None if many else total for many, total in zip(going, fired)])


def round_counts(flow):
    """Return the counts of one round, TooMany if they are too many to ask whether the flow lives."""
    counts = repetitions(flow)
    if sum(counts) > MOST_FIRINGS:
        raise TooMany(MOST_FIRINGS)
    return counts


def live_counts(flow):
    """Return the counts of one round of a flow that lives, NotLive if it does not."""
    counts = round_counts(flow)
    if most_counts(flow[1], counts) != counts:
        raise NotLive("no round can be done")
    return counts


def rounds_left(pipes, going):
    """Return for how many rounds of boxes that go on those that have stopped left tokens, None without an end."""
    # The counts of a box that has stopped are 0.
    limits = [start // (eat * going[other]) for one, other, _, eat, start in pipes if going[other] and not going[one]]
    return min(limits, default=None)
