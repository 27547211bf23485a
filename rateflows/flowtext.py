"""Flows as texts."""

from rateflows.checks import MOST_BOXES, MOST_PIPES, MOST_RATE, MOST_TOKENS, check_flow
from rateflows.errors import InvalidText, NotText

DIGITS = "0123456789"


def write_flow(flow):
    """Return the text that names a flow."""
    check_flow(flow)
    boxes, pipes = flow
    words = [f"{one}*{give}>{start}>{eat}*{other}" for one, other, give, eat, start in pipes]
    return " ".join([str(boxes)] + words)


def read_flow(text):
    """Return the flow that a text names."""
    if not isinstance(text, str):
        raise NotText("no string")
    boxes, place = read_number(text, behind_spaces(text, 0), 1, MOST_BOXES)
    pipes = []
    place = behind_gap(text, place)
    while place < len(text):
        if len(pipes) == MOST_PIPES:
            raise InvalidText(place)
        pipe, place = read_pipe(text, place, boxes)
        pipes.append(pipe)
        place = behind_gap(text, place)
    return boxes, tuple(pipes)


def read_pipe(text, place, boxes):
    """Return the pipe between some of so many boxes that stands at a place, and the place behind it."""
    one, place = read_number(text, place, 0, boxes - 1)
    give, place = read_number(text, behind_sign(text, place, "*"), 1, MOST_RATE)
    start, place = read_number(text, behind_sign(text, place, ">"), 0, MOST_TOKENS)
    eat, place = read_number(text, behind_sign(text, place, ">"), 1, MOST_RATE)
    other, place = read_number(text, behind_sign(text, place, "*"), 0, boxes - 1)
    return (one, other, give, eat, start), place


def read_number(text, first, low, high):
    """Return the number from low to high that stands at a place, and the place behind it."""
    number = 0
    place = first
    while place < len(text) and text[place] in DIGITS:
        number = 10 * number + int(text[place])
        if number > high or (place > first and text[first] == "0"):
            raise InvalidText(place)
        place += 1
    # Only behind its last digit a number is known to be too small: a digit behind a first 0 is the fault instead.
    if place == first or number < low:
        raise InvalidText(first)
    return number, place


def behind_sign(text, place, sign):
    """Return the place behind a sign that must stand at a place."""
    if place == len(text) or text[place] != sign:
        raise InvalidText(place)
    return place + 1


def behind_gap(text, place):
    """Return the place behind the spaces that must stand at a place if the text does not end there."""
    if place < len(text) and text[place] != " ":
        raise InvalidText(place)
    return behind_spaces(text, place)


def behind_spaces(text, place):
    """Return the place behind the spaces, if there are any, that stand at a place."""
    while place < len(text) and text[place] == " ":
        place += 1
    return place
