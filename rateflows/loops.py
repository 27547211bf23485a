"""Looped code: words in which stretches are said several times."""

from rateflows.balance import repetitions
from rateflows.checks import MOST_BOXES, check_loop, is_box
from rateflows.doing import does_counts
from rateflows.errors import BadLoop, BadWord, TooMany
from rateflows.firing import peaks

MOST_FOLDED = 24


def unrolled(loop):
    """Return the word that looped code says."""
    check_loop(loop)
    return tuple(boxes_said(loop))


def appearances(loop):
    """Return the tuple of the boxes in looped code, each as often as it is written."""
    check_loop(loop)
    return tuple(boxes_written(loop))


def depth(loop):
    """Return how deep stretches stand within one another, 0 without any."""
    check_loop(loop)
    return deepest(loop)


def write_loop(loop):
    """Return the text that names looped code."""
    check_loop(loop)
    return items_text(loop)


def is_schedule(flow, loop):
    """Tell whether looped code says a word of a balanced flow that does one round."""
    counts = repetitions(flow)
    return does_counts(flow[1], counts, unrolled(loop))


def loop_room(flow, loop):
    """Return the room that the word of looped code needs, None if it does not do one round."""
    if not is_schedule(flow, loop):
        return None
    return peaks(flow, unrolled(loop))


def fold_size(word):
    """Return the fewest appearances of looped code that says a word."""
    return size(folded(word))


def folded(word):
    """Return looped code with the fewest appearances that says a word."""
    check_foldable(word)
    codes = {(0, 0): ()}
    for length in range(1, len(word) + 1):
        for first in range(len(word) - length + 1):
            codes[(first, first + length)] = least_code(word, codes, first, first + length)
    return codes[(0, len(word))]


def shows_fold(word, value):
    """Tell whether a value is looped code that folded may return."""
    fewest = fold_size(word)
    try:
        said = unrolled(value)
    except BadLoop:
        return False
    return said == word and size(value) == fewest


def check_foldable(word):
    """Raise BadWord unless the value is a tuple of boxes from 0 to 7, TooMany if they are too many to fold."""
    if not isinstance(word, tuple) or not all([is_box(box, MOST_BOXES) for box in word]):
        raise BadWord(None)
    if len(word) > MOST_FOLDED:
        raise TooMany(MOST_FOLDED)


def boxes_said(loop):
    """Return the list of the boxes that looped code says."""
    boxes = []
    for item in loop:
        if isinstance(item, tuple):
            boxes.extend(item[0] * boxes_said(item[1]))
        else:
            boxes.append(item)
    return boxes


def boxes_written(loop):
    """Return the list of the boxes that are written in looped code."""
    boxes = []
    for item in loop:
        if isinstance(item, tuple):
            boxes.extend(boxes_written(item[1]))
        else:
            boxes.append(item)
    return boxes


def size(loop):
    """Return how many boxes are written in looped code."""
    return len(boxes_written(loop))


def deepest(loop):
    """Return how deep stretches stand within one another in looped code."""
    return max([1 + deepest(item[1]) for item in loop if isinstance(item, tuple)], default=0)


def items_text(loop):
    """Return the text of the items of looped code."""
    words = []
    for item in loop:
        if isinstance(item, tuple):
            words.append(f"({item[0]} {items_text(item[1])})")
        else:
            words.append(str(item))
    return " ".join(words)


def least_code(word, codes, first, end):
    """Return looped code with the fewest appearances for a part of a word, from such code for all shorter parts."""
    if end - first == 1:
        return (word[first],)
    found = [codes[(first, middle)] + codes[(middle, end)] for middle in range(first + 1, end)]
    for period in range(1, (end - first) // 2 + 1):
        times = (end - first) // period
        if word[first:first + period] * times == word[first:end]:
            found.append(((times, codes[(first, first + period)]),))
    return min(found, key=size)
