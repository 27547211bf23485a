"""What can be done on pipes: here they may be more, and hold more tokens, than those of a flow that is passed."""

from rateflows.checks import is_box
from rateflows.firing import held_behind, short_pipes


def left_on(pipes, counts):
    """Return the tuple of what counts would leave on all pipes, below 0, too."""
    return tuple([start + give * counts[one] - eat * counts[other] for one, other, give, eat, start in pipes])


def most_counts(pipes, counts):
    """Return the tuple of the greatest counts that can be done of all that are nowhere greater."""
    exits = pipes_at(pipes, 0, len(counts))
    entries = pipes_at(pipes, 1, len(counts))
    held = [pipe[4] for pipe in pipes]
    done = [0 for _ in counts]
    waiting = list(range(len(counts)))
    # No firing takes tokens from another box, so it does not matter in which order the boxes are fired.
    while waiting:
        box = waiting.pop()
        many = firings_in_a_row(pipes, held, entries[box], counts[box] - done[box])
        if many == 0:
            continue
        done[box] += many
        for place in entries[box]:
            held[place] -= many * pipes[place][3]
        for place in exits[box]:
            held[place] += many * pipes[place][2]
            waiting.append(pipes[place][1])
    return tuple(done)


def pipes_at(pipes, end, boxes):
    """Return the list, for each box, of the list of the pipes that have it as their one box, 0, or other box, 1."""
    rows = [[] for _ in range(boxes)]
    for place, pipe in enumerate(pipes):
        rows[pipe[end]].append(place)
    return rows


def firings_in_a_row(pipes, held, entries, most):
    """Return how often the box to which these pipes lead can be fired in a row, at most so often."""
    many = most
    for place in entries:
        one, other, give, eat, _ = pipes[place]
        if held[place] < eat:
            return 0
        # What a box gives to itself is there for its next firing.
        loss = eat - give if one == other else eat
        if loss > 0:
            many = min(many, (held[place] - eat) // loss + 1)
    return many


def least_word(pipes, counts):
    """Return the least word with just these counts, None without any."""
    if most_counts(pipes, counts) != counts:
        return None
    held = tuple([pipe[4] for pipe in pipes])
    left = list(counts)
    word = []
    # What is left can be done behind any firing of it, so the least box that can be fired is always the right one.
    while any(left):
        box = min([box for box, many in enumerate(left) if many and not short_pipes(pipes, held, box)])
        left[box] -= 1
        word.append(box)
        held = held_behind(pipes, held, box)
    return tuple(word)


def does_counts(pipes, counts, word):
    """Tell whether a tuple of any items is a word that can be done and has just these counts."""
    held = tuple([pipe[4] for pipe in pipes])
    left = list(counts)
    for box in word:
        if not is_box(box, len(left)) or left[box] == 0 or short_pipes(pipes, held, box):
            return False
        left[box] -= 1
        held = held_behind(pipes, held, box)
    return not any(left)


def multiplied(numbers):
    """Return the product of numbers."""
    whole = 1
    for number in numbers:
        whole *= number
    return whole
