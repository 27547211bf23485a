"""Counts: how often each box is to be fired, what of it can be done, and what the rest waits for."""

from rateflows.checks import check_counts, check_flow, is_number
from rateflows.doing import does_counts, least_word, left_on, most_counts, multiplied
from rateflows.errors import TooMany
from rateflows.firing import short_pipes

MOST_STATES = 3000


def ends(flow, counts):
    """Return the tuple of what counts would leave on all pipes, below 0, too."""
    check_flow(flow)
    check_counts(flow, counts)
    return left_on(flow[1], counts)


def can_do(flow, counts):
    """Tell whether some word has just these counts."""
    return most_done(flow, counts) == counts


def most_done(flow, counts):
    """Return the greatest counts that can be done of all that are nowhere greater."""
    check_flow(flow)
    check_counts(flow, counts)
    return most_counts(flow[1], counts)


def waits(flow, counts):
    """Return the ascending tuple of the pipes on which boxes that are left lack tokens."""
    done = most_done(flow, counts)
    held = left_on(flow[1], done)
    found = []
    for place, pipe in enumerate(flow[1]):
        other, eat = pipe[1], pipe[3]
        if done[other] < counts[other] and held[place] < eat:
            found.append(place)
    return tuple(found)


def blame(flow, counts):
    """Return a tuple of pipes of waits, one behind another, that shows why the counts can't be done, or None."""
    # Each box that is left lacks tokens on some pipe.
    lacking = {flow[1][place][1]: place for place in waits(flow, counts)}
    if not lacking:
        return None
    box = min(lacking)
    found = []
    met = {}
    while box in lacking and box not in met:
        met[box] = len(found)
        found.append(lacking[box])
        box = flow[1][lacking[box]][0]
    # If the pipes come back to a box, those behind it are the ring that waits for itself.
    return tuple(found[met.get(box, 0):])


def shows_blame(flow, counts, value):
    """Tell whether a value is a tuple that blame may return, or None if the counts can be done."""
    found = waits(flow, counts)
    if not found:
        return value is None
    if not isinstance(value, tuple) or not value:
        return False
    # True and False would be found among the pipes 0 and 1.
    if not all([is_number(place, 0, len(flow[1]) - 1) and place in found for place in value]):
        return False
    rows = [flow[1][place] for place in value]
    if not all([behind[1] == before[0] for before, behind in zip(rows, rows[1:])]):
        return False
    end = rows[-1][0]
    return end == rows[0][1] or end not in [flow[1][place][1] for place in found]


def word_for(flow, counts):
    """Return the least word with just these counts, None without any."""
    check_flow(flow)
    check_counts(flow, counts)
    return least_word(flow[1], counts)


def shows_word(flow, counts, value):
    """Tell whether a value is a word with just these counts, or None without any."""
    if not can_do(flow, counts):
        return value is None
    return isinstance(value, tuple) and does_counts(flow[1], counts, value)


def ways(flow, counts):
    """Return how many words have just these counts."""
    check_flow(flow)
    check_counts(flow, counts)
    if multiplied([many + 1 for many in counts]) > MOST_STATES:
        raise TooMany(MOST_STATES)
    numbers = {tuple([0 for _ in counts]): 1}
    for _ in range(sum(counts)):
        numbers = one_firing_on(flow[1], counts, numbers)
    return numbers.get(counts, 0)


def one_firing_on(pipes, counts, numbers):
    """Return a dict of how many words have each counts, from that for words with a firing less."""
    longer = {}
    for done, number in numbers.items():
        held = left_on(pipes, done)
        for box, many in enumerate(done):
            if many == counts[box] or short_pipes(pipes, held, box):
                continue
            more = done[:box] + (many + 1,) + done[box + 1:]
            longer[more] = longer.get(more, 0) + number
    return longer
