"""Code for a small machine, and the cells in which its tokens lie."""

from math import gcd

from rateflows.checks import MOST_BOXES, MOST_TIMES, check_flow, check_loop, check_room, is_box, is_number, is_row
from rateflows.errors import BadCode, BadLoop, BadRoom, BadWord
from rateflows.firing import rows_behind
from rateflows.loops import boxes_said, loop_room, unrolled
from rateflows.room import is_within, with_places


def code_of(loop):
    """Return the code of looped code."""
    check_loop(loop)
    return tuple(steps_of(loop))


def loop_of(code):
    """Return the looped code of code."""
    check_steps(code)
    # A step that fires ends with its box.
    loop = nested(code, [step[-1] for step in code])
    try:
        check_loop(loop)
    except BadLoop:
        raise BadCode(None) from None
    return loop


def done_steps(code):
    """Return the tuple of the indexes of the steps that fire, in the order in which they are done."""
    loop_of(code)
    return tuple(boxes_said(nested(code, list(range(len(code))))))


def trace(flow, code, room):
    """Return the tuple, for each firing, of its box, and the first cells from which it eats and to which it gives."""
    check_flow(flow)
    steps = done_steps(code)
    check_room(flow, room)
    word = [code[index][1] for index in steps]
    unknown = [index for index, box in enumerate(word) if box >= flow[0]]
    rows_behind(with_places(flow[1], room), word[:unknown[0]] if unknown else word)
    if unknown:
        raise BadWord(unknown[0])
    return tuple([(box, cells(eaten, room), cells(given, room)) for box, eaten, given in moves(flow[1], word)])


def fixed_steps(flow, loop, room):
    """Return the tuple, for each appearance of a box in looped code, of whether its cells are always the same."""
    least = round_room(flow, loop)
    check_room(flow, room)
    if not is_within(least, room):
        raise BadRoom(None)
    firsts = {}
    same = {}
    for index, eaten, given in two_rounds(flow, loop):
        used = (cells(eaten, room), cells(given, room))
        first = firsts.setdefault(index, used)
        same[index] = used == first and same.get(index, True)
    return tuple([same[index] for index in sorted(list(same))])


def fixed_room(flow, loop):
    """Return the tuple, for each pipe, of the least room with which its cells are always the same, None without any."""
    least = round_room(flow, loop)
    firsts = {}
    spans = [0 for _ in flow[1]]
    for index, eaten, given in two_rounds(flow, loop):
        for side, moved in (("eaten", eaten), ("given", given)):
            for place, number in moved:
                first = firsts.setdefault((index, side, place), number)
                # Tokens lie in the same cell if the room divides by how many they stand apart.
                spans[place] = gcd(spans[place], number - first)
    return tuple([least_divisor(span, places) for span, places in zip(spans, least)])


def steps_of(items):
    """Return the list of the steps of the items of looped code."""
    steps = []
    for item in items:
        if isinstance(item, tuple):
            steps.append(("repeat", item[0]))
            steps.extend(steps_of(item[1]))
            steps.append(("again",))
        else:
            steps.append(("fire", item))
    return steps


def check_steps(code):
    """Raise BadCode unless the value is a tuple of steps of which each stretch is closed, and none is empty."""
    if not isinstance(code, tuple):
        raise BadCode(None)
    # How many items stand in the code, and in each stretch that is open.
    since = [0]
    for index, step in enumerate(code):
        if is_two(step, "repeat") and is_number(step[1], 2, MOST_TIMES):
            since.append(0)
        elif step == ("again",) and len(since) > 1 and since[-1] > 0:
            since.pop()
            since[-1] += 1
        elif is_two(step, "fire") and is_box(step[1], MOST_BOXES):
            since[-1] += 1
        else:
            raise BadCode(index)
    if len(since) > 1:
        raise BadCode(len(code))


def is_two(value, word):
    """Tell whether a value is a pair of a word and something."""
    return is_row(value, 2) and value[0] == word


def nested(code, names):
    """Return the looped code of steps, with a name of each step that fires in place of its box."""
    times = []
    bodies = [[]]
    for step, name in zip(code, names):
        if step[0] == "fire":
            bodies[-1].append(name)
        elif step[0] == "repeat":
            times.append(step[1])
            bodies.append([])
        else:
            body = tuple(bodies.pop())
            bodies[-1].append((times.pop(), body))
    return tuple(bodies[0])


def moves(pipes, word):
    """Return the list, for each firing, of its box and the tuples of the pairs of a pipe and of the first token moved.

    The tokens of a pipe are numbered from 0 on, those that it holds at first among them.
    """
    done = {box: 0 for box in word}
    rows = []
    for box in word:
        many = done[box]
        eaten = [(place, pipe[3] * many) for place, pipe in enumerate(pipes) if pipe[1] == box]
        given = [(place, pipe[4] + pipe[2] * many) for place, pipe in enumerate(pipes) if pipe[0] == box]
        rows.append((box, tuple(eaten), tuple(given)))
        done[box] += 1
    return rows


def cells(moved, room):
    """Return the tuple of the pairs of a pipe and of the cell of the first token moved."""
    return tuple([(place, number % room[place]) for place, number in moved])


def round_room(flow, loop):
    """Return the room that looped code needs, BadLoop if it does not do one round."""
    needed = loop_room(flow, loop)
    if needed is None:
        raise BadLoop("the looped code does not do one round")
    return needed


def two_rounds(flow, loop):
    """Return the list, for each firing of two rounds of looped code, of its step and of the first tokens moved."""
    steps = done_steps(code_of(loop))
    # The second round tells of all others: from each one to the next the cells go on by as much.
    rows = moves(flow[1], 2 * unrolled(loop))
    return [(index, eaten, given) for index, (_, eaten, given) in zip(2 * steps, rows)]


def least_divisor(number, least):
    """Return the least divisor of a number that is not less than another number, None without any."""
    for by in range(number // least, 0, -1):
        if number % by == 0:
            return number // by
    return None
