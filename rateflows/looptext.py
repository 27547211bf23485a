"""Looped code read from texts."""

from rateflows.checks import MOST_DEPTH, MOST_TIMES, check_loop
from rateflows.errors import BadLoop, InvalidText, NotText
from rateflows.flowtext import DIGITS, behind_spaces

BOXES = "01234567"


def read_loop(text):
    """Return the looped code that a text names."""
    if not isinstance(text, str):
        raise NotText("no string")
    loop, place = read_items(text, 0, 0)
    if place < len(text):
        raise InvalidText(place)
    try:
        check_loop(loop)
    except BadLoop:
        # What is read is looped code but for the number of its firings, which only the whole text tells.
        raise InvalidText(place) from None
    return loop


def read_items(text, first, depth):
    """Return the items from a place on, in so many stretches, and the place of the ")" behind them, or the end."""
    items = []
    place = behind_spaces(text, first)
    while place < len(text) and text[place] != ")":
        item, place = read_item(text, place, depth)
        items.append(item)
        place = behind_item(text, place)
    return tuple(items), place


def read_item(text, first, depth):
    """Return the item that stands at a place, in so many stretches, and the place behind it."""
    if text[first] in BOXES:
        return int(text[first]), first + 1
    if text[first] != "(" or depth == MOST_DEPTH:
        raise InvalidText(first)
    times, place = read_times(text, first + 1)
    body, place = read_items(text, place, depth + 1)
    if not body or place == len(text):
        raise InvalidText(place)
    return (times, body), place + 1


def read_times(text, first):
    """Return how often a stretch is said, which stands at a place, and the place of the space behind it."""
    times = 0
    place = first
    while place < len(text) and text[place] in DIGITS:
        times = 10 * times + int(text[place])
        if times == 0 or times > MOST_TIMES:
            raise InvalidText(place)
        place += 1
    if place == first or place == len(text) or text[place] != " ":
        raise InvalidText(place)
    # Only the space tells that no further digit makes the number great enough.
    if times == 1:
        raise InvalidText(first)
    return times, place


def behind_item(text, place):
    """Return the place behind the spaces that stand behind an item."""
    if place < len(text) and text[place] not in " )":
        raise InvalidText(place)
    return behind_spaces(text, place)
