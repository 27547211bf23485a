"""Speed: when firings start, and how long a round takes when rounds go on for ever."""

from rateflows.checks import MOST_ROUNDS, check_rounds, check_times
from rateflows.doing import least_word, pipes_at
from rateflows.flows import knots, pipe_links, reached
from rateflows.rings import all_steps, is_greater, is_ring, ring_mean, slowest_ring
from rateflows.unroll import last_needed, unrolled_counts


def start_times(flow, times, many):
    """Return the tuple, for each box, of the tuple of the times at which its firings of the first rounds start."""
    counts = unrolled_counts(flow)
    check_times(flow, times)
    check_rounds(many)
    return tuple([tuple(row) for row in starts(flow[1], counts, times, many)])


def first_time(flow, times):
    """Return the time at which all firings of the first round are done."""
    rows = start_times(flow, times, 1)
    return max([row[-1] + time for row, time in zip(rows, times)])


def mean_time(flow, times):
    """Return the greatest mean of all rings of steps, as a ratio."""
    return ring_mean(slow_ring(flow, times), times)


def slow_ring(flow, times):
    """Return a ring of steps with the greatest mean."""
    slowest = None
    for ring in knot_rings(flow, times):
        if slowest is None or is_greater(ring_mean(ring, times), ring_mean(slowest, times)):
            slowest = ring
    return slowest


def shows_slow_ring(flow, times, value):
    """Tell whether a value is a ring that slow_ring may return."""
    mean = mean_time(flow, times)
    return is_ring(all_steps(flow, unrolled_counts(flow)), value) and ring_mean(value, times) == mean


def box_means(flow, times):
    """Return the tuple, for each box, of the greatest mean of all rings of the boxes from which pipes lead to it."""
    rings = knot_rings(flow, times)
    links = [(other, one) for one, other in pipe_links(flow)]
    means = []
    for box in range(flow[0]):
        before = reached(links, box)
        slowest = (0, 1)
        for ring in rings:
            mean = ring_mean(ring, times)
            # The first firing of a ring tells of which knot it is.
            if ring[0][0][0] in before and is_greater(mean, slowest):
                slowest = mean
        means.append(slowest)
    return tuple(means)


def settled(flow, times):
    """Return the first round from which on, the number of rounds by which, and the time in which all comes again."""
    counts = unrolled_counts(flow)
    check_times(flow, times)
    rows = round_rows(flow, counts, times)
    far = max([ago for _, _, ago in all_steps(flow, counts)])
    for rounds in range(1, MOST_ROUNDS - far + 1):
        gaps = [even_gap(rows[at], rows[at + rounds]) for at in range(MOST_ROUNDS - rounds)]
        for head in range(MOST_ROUNDS - far - rounds + 1):
            gap = gaps[head]
            if gap is not None and gaps[head:head + far].count(gap) == far:
                return head, rounds, gap
    return None


def starts(pipes, counts, times, many):
    """Return the list, for each box, of the list of the times at which its firings of the first rounds start."""
    entries = pipes_at(pipes, 1, len(counts))
    found = [[] for _ in counts]
    # In the word each firing stands behind those that it needs, so their times are known.
    for box in many * least_word(pipes, counts):
        number = len(found[box])
        ready = [found[box][-1] + times[box]] if found[box] else [0]
        for place in entries[box]:
            one = pipes[place][0]
            last = last_needed(pipes[place], number)
            if last >= 0:
                ready.append(found[one][last] + times[one])
        found[box].append(max(ready))
    return found


def knot_rings(flow, times):
    """Return the list, for each knot, of a ring with the greatest mean of those of its boxes."""
    counts = unrolled_counts(flow)
    check_times(flow, times)
    steps = all_steps(flow, counts)
    rings = []
    # Steps lead along pipes, so all firings of a ring are of one knot.
    for knot in knots(flow):
        inner = [step for step in steps if step[0][0] in knot and step[1][0] in knot]
        rings.append(slowest_ring(inner, times))
    return rings


def round_rows(flow, counts, times):
    """Return the list, for each of the first rounds, of the list of the times at which all of its firings start."""
    found = starts(flow[1], counts, times, MOST_ROUNDS)
    rows = []
    for at in range(MOST_ROUNDS):
        row = []
        for box, many in enumerate(counts):
            row.extend(found[box][at * many:(at + 1) * many])
        rows.append(row)
    return rows


def even_gap(row, other):
    """Return the time by which all of a round stands ahead of another round, None if this is not the same for all."""
    gaps = [late - early for early, late in zip(row, other)]
    return gaps[0] if gaps.count(gaps[0]) == len(gaps) else None
