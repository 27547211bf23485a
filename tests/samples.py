"""Values that several tests share."""

import math
import random

RING = (2, ((0, 1, 2, 3, 1), (1, 0, 3, 2, 4)))
PAIR = (2, ((0, 1, 2, 3, 1),))
OWN = (1, ((0, 0, 2, 2, 3),))
LONE = (1, ())
# Two pipes one way between the same boxes, one back, a pipe from a box to itself, and a part of its own.
MIXED = (5, ((0, 1, 1, 2, 0), (0, 1, 2, 4, 5), (1, 0, 3, 1, 2), (2, 2, 1, 4, 4), (1, 3, 999, 999, 99999)))
WIDEST = (8, tuple((k % 8, (k * 3 + 1) % 8, 1 + k, 999 - k, k) for k in range(16)))
# Not balanced: round the ring the firings come to half as many.
TILTED = (2, ((0, 1, 1, 2, 0), (1, 0, 1, 1, 0)))
SKEW = (3, ((0, 1, 1, 2, 0), (1, 2, 2, 1, 0), (0, 2, 1, 1, 0)))
# Balanced, but the boxes 1 and 2 never get all the tokens of a round.
DEAD = (3, ((1, 1, 1, 1, 0), (1, 2, 1, 1, 2)))
# Rounds of 2000 firings, of one more, and of so many that can't be done.
FULL_ROUND = (4, ((0, 1, 999, 1, 0), (0, 2, 999, 1, 0), (0, 3, 1, 1, 0)))
HEAVY = (5, FULL_ROUND[1])
DEAD_HEAVY = (5, FULL_ROUND[1] + ((4, 4, 1, 1, 0),))
FLOWS = (RING, PAIR, OWN, LONE, MIXED, WIDEST, (8, ()), (3, ((0, 2, 1, 1, 0),)))

# Values of every kind that a caller may pass, none of which is an integer, a flow, tokens or a word.
STRANGE = (
    None, True, False, "", "0", "ab", [], [0], [0, 0], [[0]], {}, {0: 0}, {"a": (1,)}, (None,), ((),),
    (True,), (False,), ("0",), ([],), ([0], {}), ({},), ({0: [1]}, True), (0, None, "a", [1], {2: 3}, (4,), False),
)


def random_flow(seed):
    """Return a small flow, always the same one for a seed, in which many boxes can be fired."""
    draw = random.Random(seed)
    boxes = draw.randint(1, 8)
    pipes = []
    for _ in range(draw.randint(0, 16)):
        ends = draw.randrange(boxes), draw.randrange(boxes)
        pipes.append((*ends, draw.randint(1, 4), draw.randint(1, 4), draw.randint(0, 9)))
    return boxes, tuple(pipes)


def balanced_flow(seed, boxes=4, pipes=5, tokens=6, least=1):
    """Return a small balanced flow, always the same one for a seed, some of which live and others do not."""
    draw = random.Random(seed)
    many = draw.randint(least, boxes)
    counts = [draw.choice((1, 1, 2, 3)) for _ in range(many)]
    rows = []
    for _ in range(draw.randint(0, pipes)):
        one, other, by = draw.randrange(many), draw.randrange(many), draw.choice((1, 1, 2))
        common = math.gcd(counts[one], counts[other])
        rates = by * counts[other] // common, by * counts[one] // common
        rows.append((one, other, *rates, draw.randint(0, tokens)))
    return many, tuple(rows)
