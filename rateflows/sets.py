"""Sets of boxes as one box."""

from itertools import combinations

from rateflows.balance import common_count, repetitions
from rateflows.checks import MOST_RATE, check_flow, check_set, check_word
from rateflows.doing import least_word, most_counts
from rateflows.errors import BadSet, TooMany
from rateflows.firing import rows_behind
from rateflows.live import live_counts

MOST_SORTED = 6


def set_shares(flow, some):
    """Return the tuple of the shares of all boxes, 0 for those that are not of a set."""
    counts = repetitions(flow)
    check_set(flow, some)
    return shares_of(counts, some)


def as_one(flow, some):
    """Return the flow in which a set is one box."""
    counts = repetitions(flow)
    check_set(flow, some)
    merged = merged_flow(flow, counts, some)
    for _, _, give, eat, _ in merged[1]:
        if max(give, eat) > MOST_RATE:
            raise TooMany(MOST_RATE)
    return merged


def within(flow, some):
    """Return the flow of a set alone, with the pipes within it."""
    check_flow(flow)
    check_set(flow, some)
    return len(some), pipes_within(flow[1], some)


def is_safe(flow, some):
    """Tell whether a flow that lives does so, too, with a set as one box."""
    counts = live_counts(flow)
    check_set(flow, some)
    return lives_merged(flow, counts, some)


def all_safe(flow):
    """Return the ascending list of all safe sets."""
    counts = live_counts(flow)
    boxes = flow[0]
    if boxes > MOST_SORTED:
        raise TooMany(MOST_SORTED)
    rows = [some for many in range(1, boxes + 1) for some in combinations(range(boxes), many)]
    return sorted([some for some in rows if lives_merged(flow, counts, some)])


def unfolded(flow, some, word):
    """Return the word that a word of the flow in which a set is one box stands for."""
    counts = live_counts(flow)
    check_set(flow, some)
    merged = merged_flow(flow, counts, some)
    check_word(merged, word)
    # What the merged box gives and eats may be more than a flow allows, so the word is not run as that of a flow.
    rows_behind(merged[1], word)
    return word_of(flow, counts, some, word)


def set_round(flow, some):
    """Return the unfolded least round of the flow in which a safe set is one box."""
    counts = live_counts(flow)
    check_set(flow, some)
    if not lives_merged(flow, counts, some):
        raise BadSet("the set is not safe")
    pipes = merged_flow(flow, counts, some)[1]
    return word_of(flow, counts, some, least_word(pipes, merged_counts(counts, some)))


def shares_of(counts, some):
    """Return the tuple of the shares of all boxes, 0 for those that are not of a set."""
    common = common_count(counts, some)
    return tuple([many // common if box in some else 0 for box, many in enumerate(counts)])


def boxes_left(boxes, some):
    """Return the list of the boxes that have a name of their own where a set is one box: its least one, and others."""
    return [box for box in range(boxes) if box == some[0] or box not in some]


def merged_flow(flow, counts, some):
    """Return the flow in which a set is one box; what its pipes give and eat may be more than a flow allows."""
    left = boxes_left(flow[0], some)
    names = [left.index(some[0] if box in some else box) for box in range(flow[0])]
    by = [max(1, share) for share in shares_of(counts, some)]
    pipes = [(names[one], names[other], give * by[one], eat * by[other], start)
             for one, other, give, eat, start in flow[1] if one not in some or other not in some]
    return len(left), tuple(pipes)


def merged_counts(counts, some):
    """Return the counts of one round of the flow in which a set is one box."""
    left = boxes_left(len(counts), some)
    return tuple([common_count(counts, some) if box in some else counts[box] for box in left])


def lives_merged(flow, counts, some):
    """Tell whether a round can be done where a set is one box."""
    going = merged_counts(counts, some)
    return most_counts(merged_flow(flow, counts, some)[1], going) == going


def pipes_within(pipes, some):
    """Return the tuple of the pipes within a set, its boxes named by their places in it."""
    return tuple([(some.index(one), some.index(other), give, eat, start)
                  for one, other, give, eat, start in pipes if one in some and other in some])


def word_of(flow, counts, some, word):
    """Return the word that a word of the flow in which a set is one box stands for, with the set's boxes in a row."""
    shares = shares_of(counts, some)
    inner = least_word(pipes_within(flow[1], some), tuple([shares[box] for box in some]))
    firings = {box: (box,) for box in range(flow[0])}
    firings[some[0]] = tuple([some[box] for box in inner])
    left = boxes_left(flow[0], some)
    found = []
    for box in word:
        found.extend(firings[left[box]])
    return tuple(found)
