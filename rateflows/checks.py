"""Checks of arguments, each of which raises the error that the document names."""

from rateflows.errors import (BadBox, BadCount, BadCounts, BadFlow, BadLoop, BadMarks, BadOrder, BadRoom, BadSet,
                              BadTimes, BadWord)

MOST_BOXES = 8
MOST_PIPES = 16
MOST_RATE = 999
MOST_TOKENS = 99999
MOST_FIRINGS = 2000
MOST_COUNT = 200
MOST_TIMES = 999
MOST_DEPTH = 8
MOST_DURATION = 99
MOST_ROUNDS = 60


def is_whole(value):
    """Tell whether a value is an integer."""
    # Python counts True and False as integers, the document does not.
    return isinstance(value, int) and not isinstance(value, bool)


def is_number(value, low, high):
    """Tell whether a value is an integer from low to high."""
    return is_whole(value) and low <= value <= high


def is_box(value, boxes):
    """Tell whether a value names one of so many boxes."""
    return is_number(value, 0, boxes - 1)


def is_row(value, many):
    """Tell whether a value is a tuple of so many items."""
    return isinstance(value, tuple) and len(value) == many


def is_pipe(value, boxes):
    """Tell whether a value is a pipe between some of so many boxes."""
    if not is_row(value, 5):
        return False
    one, other, give, eat, start = value
    if not is_box(one, boxes) or not is_box(other, boxes):
        return False
    if not is_number(give, 1, MOST_RATE) or not is_number(eat, 1, MOST_RATE):
        return False
    return is_number(start, 0, MOST_TOKENS)


def check_flow(flow):
    """Raise BadFlow unless the value is a flow."""
    if not is_row(flow, 2):
        raise BadFlow(None)
    boxes, pipes = flow
    if not is_number(boxes, 1, MOST_BOXES) or not isinstance(pipes, tuple) or len(pipes) > MOST_PIPES:
        raise BadFlow(None)
    for index, pipe in enumerate(pipes):
        if not is_pipe(pipe, boxes):
            raise BadFlow(index)


def check_box(flow, box):
    """Raise BadBox unless the value is a box of the flow."""
    if not is_box(box, flow[0]):
        raise BadBox("no box of the flow")


def check_marks(flow, some):
    """Raise BadMarks unless the value is tokens for all pipes of the flow."""
    if not is_row(some, len(flow[1])):
        raise BadMarks(None)
    for index, tokens in enumerate(some):
        if not is_number(tokens, 0, MOST_TOKENS):
            raise BadMarks(index)


def check_word(flow, word):
    """Raise BadWord unless the value is a tuple of boxes of the flow, not too long."""
    if not isinstance(word, tuple) or len(word) > MOST_FIRINGS:
        raise BadWord(None)
    for box in word:
        if not is_box(box, flow[0]):
            raise BadWord(None)


def check_counts(flow, counts):
    """Raise BadCounts unless the value is counts for all boxes of the flow."""
    if not is_row(counts, flow[0]):
        raise BadCounts(None)
    for index, many in enumerate(counts):
        if not is_number(many, 0, MOST_COUNT):
            raise BadCounts(index)


def check_room(flow, room):
    """Raise BadRoom unless the value is room for all pipes of the flow."""
    if not is_row(room, len(flow[1])):
        raise BadRoom(None)
    for index, places in enumerate(room):
        if not is_number(places, flow[1][index][4], MOST_TOKENS):
            raise BadRoom(index)


def check_set(flow, some):
    """Raise BadSet unless the value is an ascending tuple, not empty, of boxes of the flow, none twice."""
    if not isinstance(some, tuple) or not some or not all([is_box(box, flow[0]) for box in some]):
        raise BadSet("no boxes of the flow")
    if not all([before < behind for before, behind in zip(some, some[1:])]):
        raise BadSet("boxes that do not ascend")


def check_order(flow, order):
    """Raise BadOrder unless the value is a tuple of all boxes of the flow, each once."""
    if not is_row(order, flow[0]) or not all([is_box(box, flow[0]) for box in order]):
        raise BadOrder("no boxes of the flow, or not as many")
    if not all([box in order for box in range(flow[0])]):
        raise BadOrder("a box is missing")


def check_times(flow, times):
    """Raise BadTimes unless the value is durations for all boxes of the flow."""
    if not is_row(times, flow[0]):
        raise BadTimes(None)
    for index, time in enumerate(times):
        if not is_number(time, 1, MOST_DURATION):
            raise BadTimes(index)


def check_rounds(many):
    """Raise BadCount unless the value is a number of rounds that may be asked for."""
    if not is_number(many, 1, MOST_ROUNDS):
        raise BadCount("no number of rounds, or too many")


def check_loop(loop):
    """Raise BadLoop unless the value is looped code."""
    loop_firings(loop, 0)


def loop_firings(items, depth):
    """Return how many firings looped code is that stands in so many stretches, BadLoop if it is none."""
    if not isinstance(items, tuple) or depth > MOST_DEPTH:
        raise BadLoop("no tuple of items, or in too many stretches")
    many = 0
    for item in items:
        many += 1 if is_box(item, MOST_BOXES) else stretch_firings(item, depth)
        if many > MOST_FIRINGS:
            raise BadLoop("too many firings")
    return many


def stretch_firings(item, depth):
    """Return how many firings a pair of times and a stretch is that stands in so many stretches, BadLoop if none."""
    if not is_row(item, 2) or not is_number(item[0], 2, MOST_TIMES):
        raise BadLoop("no box, and no pair of times and a stretch")
    body = loop_firings(item[1], depth + 1)
    if body == 0:
        raise BadLoop("an empty stretch")
    return item[0] * body
