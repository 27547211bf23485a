"""Firings: boxes that eat from the pipes that lead to them and give to those that lead from them."""

from rateflows.checks import check_box, check_flow, check_word
from rateflows.errors import BadFiring, BadWord
from rateflows.flows import holding, marks


def fireable(flow):
    """Return the ascending tuple of the boxes that can be fired."""
    held = marks(flow)
    boxes, pipes = flow
    return tuple([box for box in range(boxes) if not short_pipes(pipes, held, box)])


def lacking(flow, box):
    """Return the ascending tuple of the pipes on which a box lacks tokens."""
    check_flow(flow)
    check_box(flow, box)
    return tuple(short_pipes(flow[1], marks(flow), box))


def fired(flow, box):
    """Return the flow behind a firing of a box."""
    if lacking(flow, box):
        raise BadFiring("the box lacks tokens")
    return holding(flow, held_behind(flow[1], marks(flow), box))


def run(flow, word):
    """Return the flow behind all firings of a word."""
    rows = line(flow, word)
    return holding(flow, rows[-1])


def line(flow, word):
    """Return the tuple of the tokens on all pipes at first and behind each firing of a word."""
    check_flow(flow)
    check_word(flow, word)
    return tuple(rows_behind(flow[1], word))


def peaks(flow, word):
    """Return the tuple of the room that a word needs on each pipe."""
    rows = line(flow, word)
    room = []
    for place, pipe in enumerate(flow[1]):
        tokens = [row[place] for row in rows]
        room.append(pipe_peak(pipe, tokens, word))
    return tuple(room)


def rows_behind(pipes, word):
    """Return the list of the tokens on all pipes at first and behind each firing of a tuple of boxes."""
    held = tuple([pipe[4] for pipe in pipes])
    rows = [held]
    for index, box in enumerate(word):
        if short_pipes(pipes, held, box):
            raise BadWord(index)
        held = held_behind(pipes, held, box)
        rows.append(held)
    return rows


def pipe_peak(pipe, tokens, word):
    """Return the room that a word needs on a pipe that holds these tokens at first and behind each firing."""
    one, other, give = pipe[:3]
    most = max(tokens)
    if one != other:
        return most
    # A firing lays its tokens on its own pipe while those that it eats are still there.
    return max([most] + [held + give for held, box in zip(tokens, word) if box == one])


def short_pipes(pipes, held, box):
    """Return the list of the pipes that lead to a box and hold less than it eats."""
    return [place for place, pipe in enumerate(pipes) if pipe[1] == box and held[place] < pipe[3]]


def held_behind(pipes, held, box):
    """Return the tuple of the tokens on all pipes behind a firing of a box."""
    behind = list(held)
    for place, (one, other, give, eat, _) in enumerate(pipes):
        if other == box:
            behind[place] -= eat
        if one == box:
            behind[place] += give
    return tuple(behind)
