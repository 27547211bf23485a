"""Room: how many tokens each pipe may hold."""

from math import gcd

from rateflows.checks import check_counts, check_flow, check_room
from rateflows.doing import most_counts, multiplied
from rateflows.errors import TooMany
from rateflows.firing import peaks
from rateflows.flows import parts
from rateflows.live import live_counts, round_counts, round_word

MOST_ROOMED = 8
MOST_ROOMS = 3000


def roomed(flow, room):
    """Return the flow with a further pipe for each of its own, which holds the places that are free."""
    check_flow(flow)
    check_room(flow, room)
    if len(flow[1]) > MOST_ROOMED:
        raise TooMany(MOST_ROOMED)
    return flow[0], with_places(flow[1], room)


def most_with(flow, room, counts):
    """Return the greatest counts that can be done with room of all that are nowhere greater."""
    check_flow(flow)
    check_room(flow, room)
    check_counts(flow, counts)
    return most_counts(with_places(flow[1], room), counts)


def is_enough(flow, room):
    """Tell whether a balanced flow lives with room."""
    counts = round_counts(flow)
    check_room(flow, room)
    return lives_with(flow[1], room, counts)


def own_rooms(flow):
    """Return the tuple of the least room of each pipe with which it lives alone."""
    live_counts(flow)
    return tuple([own_room(pipe) for pipe in flow[1]])


def branches(flow):
    """Tell whether the pipes between unlike boxes make no ring, seen without directions."""
    joined = len(parts(flow))
    between = [pipe for pipe in flow[1] if pipe[0] != pipe[1]]
    # Without a ring each pipe joins two parts to one.
    return len(between) == flow[0] - joined


def word_room(flow):
    """Return the room that the least word of one round needs."""
    return peaks(flow, round_word(flow))


def least_room(flow):
    """Return the pair of the least sum of room with which the flow lives, and the least such room."""
    counts = live_counts(flow)
    own = own_rooms(flow)
    spare = sum(word_room(flow)) - sum(own)
    spans = [1 + spare for _ in own]
    if multiplied(spans) > MOST_ROOMS:
        raise TooMany(MOST_ROOMS)
    rooms = sorted([(sum(row), row) for row in rooms_up(own, spans) if sum(row) <= sum(own) + spare])
    at = 0
    # The room of round_word is one of them, so this ends.
    while not lives_with(flow[1], rooms[at][1], counts):
        at += 1
    return rooms[at]


def least_rooms(flow, room):
    """Return the ascending list of all room with which the flow lives, none of it to spare, nowhere above some."""
    counts = live_counts(flow)
    check_room(flow, room)
    own = own_rooms(flow)
    spans = [max(0, most - least + 1) for least, most in zip(own, room)]
    if multiplied(spans) > MOST_ROOMS:
        raise TooMany(MOST_ROOMS)
    found = []
    # All that is less stands ahead, so what has no such room below it has nothing to spare.
    for row in rooms_up(own, spans):
        if not any([is_within(other, row) for other in found]) and lives_with(flow[1], row, counts):
            found.append(row)
    return found


def own_room(pipe):
    """Return the least room with which a pipe lives alone."""
    one, other, give, eat, start = pipe
    if one == other:
        return start + give
    common = gcd(give, eat)
    return max(start, give + eat - common + start % common)


def with_places(pipes, room):
    """Return the pipes and behind them, for each one, a pipe back that holds the places that are free."""
    back = [(pipe[1], pipe[0], pipe[3], pipe[2], most - pipe[4]) for pipe, most in zip(pipes, room)]
    return pipes + tuple(back)


def lives_with(pipes, room, counts):
    """Tell whether the counts of a round can be done with room."""
    return most_counts(with_places(pipes, room), counts) == counts


def rooms_up(own, spans):
    """Return the ascending list of all room from the least room of each pipe on, as many for each as its span."""
    if 0 in spans:
        return []
    rows = [()]
    for least, span in zip(own, spans):
        rows = [row + (least + more,) for row in rows for more in range(span)]
    return rows


def is_within(room, other):
    """Tell whether room is nowhere greater than other room."""
    return all([places <= most for places, most in zip(room, other)])
