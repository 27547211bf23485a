"""Looped code in which each box stands just once."""

from itertools import permutations

from rateflows.balance import common_count
from rateflows.checks import MOST_TIMES, check_flow, check_order
from rateflows.errors import BadLoop, BadOrder
from rateflows.flows import reached
from rateflows.live import live_counts
from rateflows.loops import appearances, is_schedule


def has_single(flow):
    """Tell whether looped code with each box just once does one round of a flow that lives."""
    return single(flow) is not None


def single(flow):
    """Return looped code with each box just once that does one round, None without any."""
    counts = live_counts(flow)
    return single_code(flow[1], counts, tuple(range(flow[0])))


def shows_single(flow, value):
    """Tell whether a value is looped code that single may return, or None without any."""
    if single(flow) is None:
        return value is None
    try:
        return sorted(appearances(value)) == list(range(flow[0])) and is_schedule(flow, value)
    except BadLoop:
        return False


def forward_orders(flow):
    """Return the ascending list of all orders of boxes in which each pipe leads from an earlier box to a later one."""
    check_flow(flow)
    return [order for order in permutations(range(flow[0])) if is_forward(flow[1], order)]


def least_nest(flow, order):
    """Return the least sum of room that looped code with each box just once, in an order, needs, and such code."""
    counts = live_counts(flow)
    check_order(flow, order)
    if not is_forward(flow[1], order):
        raise BadOrder("some pipe does not lead from an earlier box to a later one")
    nests = {(at, at + 1): (0, (box,)) for at, box in enumerate(order)}
    for length in range(2, len(order) + 1):
        for first in range(len(order) - length + 1):
            nests[(first, first + length)] = least_split(flow[1], counts, order[first:first + length], nests, first)
    return nests[(0, len(order))]


def is_forward(pipes, order):
    """Tell whether each pipe leads from an earlier box of an order to a later one."""
    return all([order.index(pipe[0]) < order.index(pipe[1]) for pipe in pipes])


def single_code(pipes, counts, some):
    """Return looped code with each of some boxes just once that does their shares, None without any."""
    if len(some) == 1:
        return some
    # The shares are the fewest firings that may be said at once: so a box asks for the fewest tokens at first.
    common = common_count(counts, some)
    short = [(other, one) for one, other, _, eat, start in pipes if start * common < eat * counts[other]]
    links = [(other, one) for other, one in short if one in some and other in some]
    for box in some:
        ahead = reached(links, box)
        # If there is code at all, then also for each few of the boxes, whatever is parted from them like this first.
        if len(ahead) < len(some):
            front = tuple([other for other in some if other in ahead])
            back = tuple([other for other in some if other not in ahead])
            codes = [single_code(pipes, counts, front), single_code(pipes, counts, back)]
            return None if None in codes else joined(counts, front, codes[0], back, codes[1])
    return None


def least_split(pipes, counts, boxes, nests, first):
    """Return the least sum of room and code for a part of an order that stands at a place, from all shorter parts."""
    common = common_count(counts, boxes)
    found = []
    for middle in range(1, len(boxes)):
        front, back = boxes[:middle], boxes[middle:]
        front_room, front_code = nests[(first, first + middle)]
        back_room, back_code = nests[(first + middle, first + len(boxes))]
        # Such a pipe holds at most what is given to it before the boxes behind are fired.
        rooms = [start + give * counts[one] // common for one, other, give, _, start in pipes
                 if one in front and other in back]
        code = joined(counts, front, front_code, back, back_code)
        found.append((front_room + sum(rooms) + back_room, code))
    return min(found, key=lambda pair: pair[0])


def joined(counts, front, front_code, back, back_code):
    """Return code for the shares of all boxes from code for those in front and code for those behind."""
    common = common_count(counts, front + back)
    ahead = said(common_count(counts, front) // common, front_code)
    return ahead + said(common_count(counts, back) // common, back_code)


def said(times, code):
    """Return looped code that says a stretch so often."""
    if times == 1:
        return code
    if times <= MOST_TIMES:
        return ((times, code),)
    # Counts are at most 2000, and have no greater prime divisors than rates: so two stretches are enough.
    inner = 2
    while times % inner or times // inner > MOST_TIMES:
        inner += 1
    return ((times // inner, ((inner, code),)),)
