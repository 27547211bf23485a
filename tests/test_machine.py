"""Points 21, 22 and 23: code for a small machine, its cells, and steps whose cells are always the same."""

import itertools
import random
import unittest

from cases import ErrorCase
from rateflows.balance import repetitions
from rateflows.errors import BadCode, BadFlow, BadLoop, BadRoom, BadWord, NotBalanced
from rateflows.live import is_live, round_word
from rateflows.loops import appearances, folded, is_schedule, loop_room, unrolled
from rateflows.machine import code_of, done_steps, fixed_room, fixed_steps, loop_of, trace
from rateflows.single import single
from samples import (DEAD, FULL_ROUND, HEAVY, LONE, MIXED, OWN, PAIR, RING, SKEW, STRANGE, TILTED, balanced_flow,
                     random_flow)

AGAIN = ("again",)
LINE = (2, ((0, 1, 1, 2, 0),))
OF_CODE = (loop_of, done_steps)


def fires(*boxes):
    return tuple(("fire", box) for box in boxes)


def nested_code(deep):
    """Return code with stretches so deep."""
    return (("repeat", 2),) * deep + fires(5) + (AGAIN,) * deep


def random_loop(draw, boxes=8, deep=3):
    items = []
    for _ in range(draw.randint(1, 3)):
        stretch = deep and draw.random() < 0.4
        items.append((draw.randint(2, 3), random_loop(draw, boxes, deep - 1)) if stretch else draw.randrange(boxes))
    return tuple(items)


def plain_steps(code):
    """Return the indexes of the steps that fire, in order, by going through the code with a stack of what is open."""
    done, open_ones, at = [], [], 0
    while at < len(code):
        if code[at][0] == "fire":
            done.append(at)
        elif code[at][0] == "repeat":
            open_ones.append([at, code[at][1]])
        else:
            open_ones[-1][1] -= 1
            if open_ones[-1][1]:
                at = open_ones[-1][0]
            else:
                open_ones.pop()
        at += 1
    return tuple(done)


class Machine:
    """Rings of cells in which each token lies in a cell of its own."""

    def __init__(self, flow, room):
        self.flow = flow
        self.rings = [[k < pipe[4] for k in range(places)] for pipe, places in zip(flow[1], room)]
        self.heads = [0 for _ in room]
        self.tails = [pipe[4] % places if places else 0 for pipe, places in zip(flow[1], room)]

    def fire(self, box):
        """Return what is eaten and given, None if the firing can't be done."""
        pipes = list(enumerate(self.flow[1]))
        if any(self.rings[k].count(True) < pipe[3] for k, pipe in pipes if pipe[1] == box):
            return None
        if any(self.rings[k].count(False) < pipe[2] for k, pipe in pipes if pipe[0] == box):
            return None
        eaten = tuple((k, self.heads[k]) for k, pipe in pipes if pipe[1] == box)
        given = tuple((k, self.tails[k]) for k, pipe in pipes if pipe[0] == box)
        for k, _ in given:
            for _ in range(self.flow[1][k][2]):
                assert not self.rings[k][self.tails[k]]
                self.rings[k][self.tails[k]] = True
                self.tails[k] = (self.tails[k] + 1) % len(self.rings[k])
        for k, _ in eaten:
            for _ in range(self.flow[1][k][3]):
                assert self.rings[k][self.heads[k]]
                self.rings[k][self.heads[k]] = False
                self.heads[k] = (self.heads[k] + 1) % len(self.rings[k])
        return eaten, given


def plain_trace(flow, word, room):
    """Return what trace should return, or the index of the first firing that can't be done."""
    machine, rows = Machine(flow, room), []
    for index, box in enumerate(word):
        moved = machine.fire(box) if box < flow[0] else None
        if moved is None:
            return index
        rows.append((box, *moved))
    return tuple(rows)


def plain_fixed(flow, loop, room, rounds=9):
    """Return the dict, for each step and each pipe at its box, of the set of the cells of it in some rounds."""
    steps, word = plain_steps(code_of(loop)), unrolled(loop)
    rows = plain_trace(flow, word * rounds, room)
    used = {index: {} for index in steps}
    for index, (_, eaten, given) in zip(steps * rounds, rows):
        for side, moved in enumerate((eaten, given)):
            for place, cell in moved:
                used[index].setdefault((side, place), set()).add(cell)
    return used


def loops_of(flow, draw):
    """Return some looped code that does one round of a flow that lives."""
    word = round_word(flow)
    loops = [word, single(flow), folded(word) if len(word) <= 24 else None]
    for _ in range(3):
        items = []
        for box, group in itertools.groupby(word):
            many = len(list(group))
            first = draw.randint(0, many)
            items += [(first, (box,))] if first > 1 else [box] * first
            items += [(many - first, (box,))] if many - first > 1 else [box] * (many - first)
        loops.append(tuple(items))
    return [loop for loop in loops if loop is not None]


class CodeTest(ErrorCase):
    def assert_code(self, loop, code):
        with self.subTest(loop=loop):
            self.assertEqual(repr(code_of(loop)), repr(code))
            self.assertEqual(repr(loop_of(code)), repr(loop))

    def assert_bad(self, code, index):
        with self.subTest(code=code if isinstance(code, str) else str(code)[:200]):
            for ask in OF_CODE:
                self.assert_error(BadCode, index, ask, code)
            self.assert_error(BadCode, index, trace, PAIR, code, None)

    def test_code(self):
        self.assert_code((0, (2, (1,))), (("fire", 0), ("repeat", 2), ("fire", 1), AGAIN))
        self.assert_code((), ())
        self.assert_code((7,), (("fire", 7),))
        self.assert_code(((2, ((3, (0, 1)), 2)), (999, (5,))),
                         (("repeat", 2), ("repeat", 3), *fires(0, 1), AGAIN, ("fire", 2), AGAIN, ("repeat", 999),
                          ("fire", 5), AGAIN))
        self.assert_code(((2, ((2, (4,)),)),), (("repeat", 2), ("repeat", 2), ("fire", 4), AGAIN, AGAIN))

    def test_done_steps(self):
        self.assertEqual(done_steps(code_of((0, (2, (1,))))), (0, 2, 2))
        self.assertEqual(done_steps(()), ())
        self.assertEqual(done_steps(code_of(((2, ((3, (0, 1)), 2)), 5))), ((2, 3) * 3 + (5,)) * 2 + (7,))
        self.assertEqual(done_steps(nested_code(8)), (8,) * 256)

    def test_boxes(self):
        for box in range(8):
            self.assert_code((box,), (("fire", box),))
        for box in (-1, 8, 9, 10 ** 30, *STRANGE, (0,)):
            self.assert_bad((("fire", box),), 0)
            self.assert_bad((("fire", 0), ("repeat", 2), ("fire", box), AGAIN), 2)

    def test_times(self):
        for times in (2, 3, 998, 999):
            self.assert_code(((times, (0,)),), (("repeat", times), ("fire", 0), AGAIN))
        for times in (-1, 0, 1, 1000, 10 ** 30, *STRANGE, (2,)):
            self.assert_bad((("repeat", times), ("fire", 0), AGAIN), 0)
            self.assert_bad((("fire", 0), ("repeat", times), ("fire", 0), AGAIN), 1)

    def test_items_that_are_no_steps(self):
        for step in (*STRANGE, 0, "fire", ("fire",), ("fire", 0, 0), ["fire", 0], ("again", 0), ["again"], "again",
                     ("Fire", 0), ("repeat",), ("repeat", 2, 2), (0, "fire"), ("again", "again"), ("fire", "0"),
                     (True, 0), ((), 0), ("", 0), (None, 2), ({}, 2), (["fire"], 0), ("refire", 0), {"again": 0}):
            self.assert_bad((step,), 0)
            self.assert_bad((("fire", 1), ("repeat", 2), ("fire", 1), step, AGAIN), 3)

    def test_again_without_an_open_stretch(self):
        self.assert_bad((AGAIN,), 0)
        self.assert_bad((("fire", 0), AGAIN), 1)
        self.assert_bad((("repeat", 2), ("fire", 0), AGAIN, AGAIN), 3)
        self.assert_bad((("repeat", 2), ("fire", 0), AGAIN, ("fire", 0), AGAIN, None), 4)

    def test_again_with_nothing_since(self):
        self.assert_bad((("repeat", 2), AGAIN), 1)
        self.assert_bad((("fire", 0), ("repeat", 2), AGAIN), 2)
        self.assert_bad((("repeat", 2), ("fire", 0), ("repeat", 2), AGAIN, AGAIN), 3)
        self.assert_bad((("repeat", 2), ("repeat", 2), AGAIN, ("fire", 0), AGAIN), 2)
        # A stretch is something, too.
        self.assertEqual(loop_of((("repeat", 2), ("repeat", 2), ("fire", 0), AGAIN, AGAIN)), ((2, ((2, (0,)),)),))

    def test_a_stretch_that_stays_open(self):
        self.assert_bad((("repeat", 2),), 1)
        self.assert_bad((("repeat", 2), ("fire", 0)), 2)
        self.assert_bad((("repeat", 2), ("fire", 0), AGAIN, ("repeat", 3)), 4)
        self.assert_bad((("repeat", 2), ("repeat", 2), ("fire", 0), AGAIN), 4)
        self.assert_bad((("repeat", 2),) * 100000, 100000)
        # An item that is wrong comes ahead, wherever it stands.
        self.assert_bad((("repeat", 2), ("fire", 0), ("fire", 8)), 2)
        self.assert_bad((("repeat", 2), ("repeat", 1), ("fire", 0)), 1)

    def test_code_that_would_be_no_looped_code(self):
        self.assertEqual(loop_of(nested_code(8))[0][0], 2)
        self.assert_bad(nested_code(9), None)
        self.assert_bad(nested_code(30000), None)
        self.assertEqual(len(unrolled(loop_of(fires(3) * 2000))), 2000)
        self.assert_bad(fires(3) * 2001, None)
        self.assert_bad((("repeat", 999), *fires(0, 1, 2), AGAIN), None)
        self.assertEqual(len(done_steps((("repeat", 999), *fires(0, 1), AGAIN, *fires(2, 3)))), 2000)
        self.assert_bad((("repeat", 999), *fires(0, 1), AGAIN, *fires(2, 3, 4)), None)
        # Steps that are wrong, and a stretch that stays open, come ahead.
        self.assert_bad(nested_code(9) + (AGAIN,), 19)
        self.assert_bad(nested_code(9)[:-1], 18)
        self.assert_bad(fires(3) * 2001 + fires(8), 2001)

    def test_values_that_are_no_tuples(self):
        for value in (None, 0, True, "", "fire", [], [("fire", 0)], {}, {0: ("fire", 0)}, [AGAIN]):
            self.assert_bad(value, None)
        self.assert_bad(("fire", 0), 0)

    def test_wrong_looped_code(self):
        for loop in (*STRANGE, 0, (8,), (-1,), (True,), ((1, (0,)),), ((1000, (0,)),), ((2, ()),), [0], (0,) * 2001):
            self.assert_plain_error(BadLoop, code_of, loop)

    def test_against_another_way(self):
        draw = random.Random(41)
        for _ in range(300):
            loop = random_loop(draw)
            code = code_of(loop)
            with self.subTest(loop=loop):
                self.assertEqual(repr(loop_of(code)), repr(loop))
                self.assertEqual(done_steps(code), plain_steps(code))
                self.assertEqual(tuple(code[index][1] for index in done_steps(code)), unrolled(loop))
                self.assertEqual(tuple(step[1] for step in code if step[0] == "fire"), appearances(loop))


class TraceTest(ErrorCase):
    def test_traces(self):
        self.assertEqual(trace(PAIR, fires(0, 1), (4,)), ((0, (), ((0, 1),)), (1, ((0, 0),), ())))
        self.assertEqual(trace(PAIR, (), (4,)), ())
        self.assertEqual(trace(LONE, fires(0, 0), ()), ((0, (), ()), (0, (), ())))
        self.assertEqual(trace(RING, fires(0, 0, 1), (9, 9)),
                         ((0, ((1, 0),), ((0, 1),)), (0, ((1, 2),), ((0, 3),)), (1, ((0, 0),), ((1, 4),))))

    def test_cells_that_go_round_their_ring(self):
        code = (("repeat", 2), *fires(0, 1, 0, 0, 1), AGAIN)
        self.assertEqual([moved for box, eaten, given in trace(PAIR, code, (4,)) for moved in eaten + given],
                         [(0, cell) for cell in (1, 0, 3, 1, 3, 3, 2, 1, 3, 1)])
        self.assertEqual([moved for box, eaten, given in trace(PAIR, code, (5,)) for moved in eaten + given],
                         [(0, cell) for cell in (1, 0, 3, 0, 3, 2, 1, 4, 1, 4)])
        # Tokens that fill all cells at first: the next one lies in the cell 0.
        full = (2, ((0, 1, 1, 1, 3),))
        self.assertEqual(trace(full, fires(1, 0, 0)[:2], (3,)), ((1, ((0, 0),), ()), (0, (), ((0, 0),))))

    def test_pipes_in_ascending_order(self):
        flow = (2, ((0, 0, 1, 1, 2), (0, 1, 1, 1, 5), (1, 0, 1, 1, 5), (0, 0, 2, 2, 2), (0, 1, 2, 2, 0)))
        self.assertEqual(trace(flow, fires(0, 0), (9, 9, 9, 9, 9)),
                         ((0, ((0, 0), (2, 0), (3, 0)), ((0, 2), (1, 5), (3, 2), (4, 0))),
                          (0, ((0, 1), (2, 1), (3, 2)), ((0, 3), (1, 6), (3, 4), (4, 2)))))

    def test_a_pipe_from_a_box_to_itself(self):
        self.assertEqual(trace(OWN, fires(0, 0, 0), (5,)),
                         ((0, ((0, 0),), ((0, 3),)), (0, ((0, 2),), ((0, 0),)), (0, ((0, 4),), ((0, 2),))))
        # What it gives needs places ahead of what it eats.
        self.assert_error(BadWord, 0, trace, OWN, fires(0), (4,))

    def test_room_that_is_just_enough_and_less(self):
        self.assertEqual(len(trace(PAIR, fires(0, 0, 0, 1, 1), (7,))), 5)
        self.assert_error(BadWord, 2, trace, PAIR, fires(0, 0, 0, 1, 1), (6,))
        self.assert_error(BadWord, 1, trace, PAIR, fires(0, 0, 0, 1, 1), (3,))
        self.assert_error(BadWord, 0, trace, PAIR, fires(0, 0, 0, 1, 1), (2,))
        self.assert_error(BadWord, 0, trace, PAIR, fires(0, 0, 0, 1, 1), (1,))
        self.assert_error(BadWord, 0, trace, (2, ((0, 1, 1, 1, 0),)), fires(0), (0,))
        self.assert_error(BadWord, 0, trace, (2, ((0, 1, 1, 1, 0),)), fires(1), (0,))

    def test_firings_that_lack_tokens(self):
        self.assert_error(BadWord, 0, trace, PAIR, fires(1), (9,))
        self.assert_error(BadWord, 2, trace, PAIR, fires(0, 1, 1), (9,))
        self.assert_error(BadWord, 3, trace, PAIR, code_of((0, (3, (1, 0)))), (9,))

    def test_boxes_that_the_flow_does_not_have(self):
        self.assert_error(BadWord, 0, trace, PAIR, fires(2), (9,))
        self.assert_error(BadWord, 1, trace, PAIR, fires(0, 7, 1), (9,))
        self.assert_error(BadWord, 4, trace, PAIR, code_of(((2, (0, 0)), 2)), (9,))
        # A firing ahead that can't be done comes first, one behind it not.
        self.assert_error(BadWord, 0, trace, PAIR, fires(1, 2), (9,))
        self.assert_error(BadWord, 1, trace, PAIR, fires(0, 2, 1, 1, 1), (9,))
        self.assert_error(BadWord, 0, trace, LONE, fires(1), ())

    def test_wrong_arguments(self):
        self.assert_error(BadFlow, None, trace, (0, ()), None, None)
        self.assert_error(BadFlow, 0, trace, (1, (None,)), (None,), None)
        self.assert_error(BadCode, 1, trace, PAIR, (("repeat", 2),), None)
        self.assert_error(BadCode, None, trace, PAIR, nested_code(9), (9,))
        for room in (None, 0, [9], (), (9, 9), {0: 9}, "9"):
            self.assert_error(BadRoom, None, trace, PAIR, fires(2), room)
        for places in (0, -1, 100000, *STRANGE, (9,)):
            self.assert_error(BadRoom, 0, trace, PAIR, fires(1), (places,))
            self.assert_error(BadRoom, 1, trace, RING, fires(1), (9, places))

    def test_flows_that_are_not_balanced(self):
        self.assertEqual(trace((2, TILTED[1] + ((0, 0, 1, 2, 2),)), (), (0, 0, 2)), ())
        self.assertEqual(len(trace((2, ((0, 1, 1, 1, 0), (0, 1, 2, 1, 0))), fires(0, 1), (1, 2))), 2)
        self.assertEqual(trace(MIXED, fires(2, 3), (9,) * 3 + (9, 99999))[0], (2, ((3, 0),), ((3, 4),)))

    def test_against_another_way(self):
        draw = random.Random(42)
        told = {True: 0, False: 0}
        for seed in range(400):
            flow = random_flow(seed) if seed % 2 else balanced_flow(seed, 4, 5, 4)
            room = tuple(pipe[4] + draw.randint(0, 9) for pipe in flow[1])
            loop = random_loop(draw, min(8, flow[0] + draw.randint(0, 1)), 2)
            if seed % 4 == 0 and is_live(flow):
                loop, room = round_word(flow) * 2, tuple(pipe[4] + draw.randint(6, 9) for pipe in flow[1])
            expected = plain_trace(flow, unrolled(loop), room)
            with self.subTest(flow=flow, room=room, loop=loop):
                if isinstance(expected, int):
                    self.assert_error(BadWord, expected, trace, flow, code_of(loop), room)
                else:
                    self.assertEqual(repr(trace(flow, code_of(loop), room)), repr(expected))
            told[isinstance(expected, int)] += 1
        self.assertGreater(min(told.values()), 50)


class FixedTest(ErrorCase):
    def test_fixed_steps(self):
        self.assertEqual(fixed_steps(LINE, ((2, (0,)), 1), (2,)), (False, True))
        self.assertEqual(fixed_steps(LINE, (0, 0, 1), (2,)), (True, True, True))
        self.assertEqual(fixed_steps(LINE, (0, 0, 1), (3,)), (False, False, False))
        self.assertEqual(fixed_steps(LINE, (0, 0, 1), (4,)), (False, False, False))
        self.assertEqual(fixed_steps(LONE, (0,), ()), (True,))
        self.assertEqual(fixed_steps((3, ()), (2, 0, 1), ()), (True,) * 3)

    def test_a_box_on_several_pipes(self):
        flow = (3, ((0, 1, 1, 2, 0), (0, 2, 1, 2, 0), (1, 2, 1, 1, 0)))
        self.assertEqual(fixed_steps(flow, (0, 0, 1, 2), (2, 2, 1)), (True,) * 4)
        self.assertEqual(fixed_steps(flow, (0, 0, 1, 2), (2, 3, 1)), (False, False, True, False))
        self.assertEqual(fixed_steps(flow, (0, 0, 1, 2), (3, 2, 1)), (False, False, False, True))
        self.assertEqual(fixed_steps(flow, (0, 0, 1, 2), (2, 2, 2)), (True, True, False, False))

    def test_a_pipe_from_a_box_to_itself(self):
        self.assertEqual(fixed_steps((1, ((0, 0, 2, 2, 2),)), (0,), (4,)), (False,))
        self.assertEqual(fixed_room((1, ((0, 0, 2, 2, 2),)), (0,)), (None,))
        twice = (2, ((0, 0, 2, 2, 2), (0, 1, 1, 2, 0)))
        self.assertEqual(fixed_steps(twice, (0, 0, 1), (4, 2)), (True, True, True))
        self.assertEqual(fixed_room(twice, (0, 0, 1)), (4, 2))
        self.assertEqual(fixed_room(twice, ((2, (0,)), 1)), (None, None))

    def test_fixed_room(self):
        self.assertEqual(fixed_room(LINE, (0, 0, 1)), (2,))
        self.assertEqual(fixed_room(LINE, ((2, (0,)), 1)), (None,))
        self.assertEqual(fixed_room(PAIR, (0, 1, 0, 0, 1)), (6,))
        self.assertEqual(fixed_room(PAIR, (0, 0, 0, 1, 1)), (None,))
        self.assertEqual(fixed_room((2, ((0, 1, 2, 3, 0),)), (0, 0, 1, 0, 1)), (6,))
        self.assertEqual(fixed_room((2, ((0, 1, 2, 3, 0),)), (0, 0, 0, 1, 1)), (6,))
        self.assertEqual(fixed_room((2, ((0, 1, 2, 3, 0),)), (0, 0, 0, (2, (1,)))), (None,))
        self.assertEqual(fixed_room(LONE, (0,)), ())
        # Each firing of box 0 gives six tokens to those of box 1, two by two.
        self.assertEqual(fixed_room((3, ((0, 1, 6, 2, 0), (2, 0, 1, 2, 0))), ((2, (2,)), 0, (3, (1,)))), (None, None))
        self.assertEqual(fixed_room((3, ((1, 0, 2, 6, 0), (2, 0, 1, 2, 0))), (2, 2, 1, 1, 1, 0)), (6, 2))

    def test_a_room_that_is_more_than_the_code_needs(self):
        flow = (2, ((0, 1, 12, 1, 0),))
        self.assertEqual(fixed_room(flow, (0,) + (1,) * 12), (12,))
        late = (2, ((0, 1, 1, 1, 0), (0, 1, 1, 1, 1)))
        self.assertEqual(fixed_room(late, (0, 1)), (1, None))
        self.assertEqual(fixed_room((2, ((0, 1, 2, 1, 0),)), (0, 1, 1)), (2,))
        six = (3, ((0, 1, 1, 1, 0), (2, 0, 1, 6, 0)))
        self.assertEqual(loop_room(six, (2,) * 6 + (0, 1)), (1, 6))
        # Of the 30 tokens of a round at most ten lie at once, or eleven with one more: so 10 and 15 divide them.
        flow = (2, ((0, 1, 5, 6, 0),))
        word = (0, 0, 1, 0, 1, 0, 1, 0, 1, 0, 1)
        self.assertEqual(loop_room(flow, word), (10,))
        self.assertEqual(fixed_room(flow, word), (10,))
        self.assertEqual(fixed_room((2, ((0, 1, 5, 6, 1),)), word), (15,))
        # Of the 9 tokens of a round at most four lie at once.
        flow = (3, ((0, 1, 3, 1, 0), (2, 0, 3, 1, 0)))
        self.assertEqual(fixed_room(flow, (2, 0, 1, 1, 0, 1, 1, 1, 1, 0, 1, 1, 1)), (9, 3))

    def test_what_room_divides(self):
        # The code is said twice a round, so the cells have to come again each time.
        flow = (3, ((0, 1, 1, 2, 0), (1, 2, 1, 2, 0)))
        self.assertEqual(fixed_room(flow, ((2, (0, 0, 1)), 2)), (2, None))
        self.assertEqual(fixed_room(flow, (0, 0, 1, 0, 0, 1, 2)), (2, 2))
        self.assertEqual(fixed_steps(flow, ((2, (0, 0, 1)), 2), (2, 2)), (True, True, False, True))

    def test_room_less_than_the_code_needs(self):
        self.assert_error(BadRoom, None, fixed_steps, LINE, ((2, (0,)), 1), (1,))
        self.assert_error(BadRoom, None, fixed_steps, PAIR, (0, 0, 0, 1, 1), (6,))
        self.assertEqual(fixed_steps(PAIR, (0, 0, 0, 1, 1), (7,)), (False,) * 5)
        self.assert_error(BadRoom, None, fixed_steps, OWN, (0,), (4,))
        # Room that is none comes ahead.
        self.assert_error(BadRoom, 0, fixed_steps, PAIR, (0, 0, 0, 1, 1), (0,))
        self.assert_error(BadRoom, 1, fixed_steps, RING, (0, (2, (0, 1))), (1, 3))
        self.assert_error(BadRoom, None, fixed_steps, RING, (0, (2, (0, 1))), (1, 4))
        self.assert_error(BadRoom, 0, fixed_steps, PAIR, (0, 0, 0, 1, 1), (100000,))

    def test_looped_code_that_does_not_do_one_round(self):
        for loop in ((), (0,), (0, 1), ((6, (0,)), (4, (1,))), (1, 0, 0, 0, 1), (0, 1, 1, 0, 0), (0, 0, 0, 1, 1, 2),
                     ((2, (0, 0, 0, 1, 1)),)):
            with self.subTest(loop=loop):
                self.assert_plain_error(BadLoop, fixed_steps, PAIR, loop, None)
                self.assert_plain_error(BadLoop, fixed_room, PAIR, loop)
        self.assert_plain_error(BadLoop, fixed_room, DEAD, (0, 1, 2))
        self.assert_plain_error(BadLoop, fixed_room, HEAVY, (0, 4, (999, (1, 2))))
        self.assertEqual(fixed_room(FULL_ROUND, (0, (999, (1, 2)), 3)), (None, None, 1))

    def test_wrong_arguments(self):
        for ask, rest in ((fixed_steps, [None]), (fixed_room, [])):
            self.assert_error(BadFlow, None, ask, (0, ()), None, *rest)
            self.assert_error(BadFlow, 0, ask, (1, (None,)), (0,), *rest)
            self.assert_plain_error(NotBalanced, ask, TILTED, None, *rest)
            for loop in (*STRANGE, (8,), (True,), ((1, (0,)),), ((2, ()),), [0, 0, 0, 1, 1], (0,) * 2001):
                self.assert_plain_error(BadLoop, ask, PAIR, loop, *rest)
            # Neither asks whether the flow lives.
            self.assert_plain_error(BadLoop, ask, DEAD, (0, 1, 2), *rest)
            self.assert_plain_error(BadLoop, ask, HEAVY, (0,), *rest)
        for room in (None, 9, [9], (), (9, 9)):
            self.assert_error(BadRoom, None, fixed_steps, PAIR, (0, 0, 0, 1, 1), room)
        for places in (0, 100000, *STRANGE):
            self.assert_error(BadRoom, 0, fixed_steps, PAIR, (0, 0, 0, 1, 1), (places,))

    def test_against_another_way(self):
        draw = random.Random(43)
        told = []
        for seed in range(300):
            flow = balanced_flow(seed, 4, 5, 4, 2)
            if not is_live(flow):
                continue
            for loop in loops_of(flow, draw):
                self.assertIs(is_schedule(flow, loop), True)
                least = loop_room(flow, loop)
                room = tuple(places + draw.choice((0, 0, 1, 2)) for places in least)
                used = plain_fixed(flow, loop, room)
                expected = tuple(all(len(cells) == 1 for cells in used[index].values()) for index in sorted(used))
                with self.subTest(flow=flow, loop=loop, room=room):
                    self.assertEqual(repr(fixed_steps(flow, loop, room)), repr(expected))
                    self.assertEqual(repr(fixed_room(flow, loop)), repr(self.plain_room(flow, loop, least)))
                told += [repr(one) for one in expected + fixed_room(flow, loop)]
        for one in ("True", "False", "None", "2", "6"):
            self.assertGreater(told.count(one), 20)

    def plain_room(self, flow, loop, least):
        """Return what fixed_room should return, by trying all room for each pipe."""
        found = []
        for place, (pipe, places) in enumerate(zip(flow[1], least)):
            most = pipe[2] * repetitions(flow)[pipe[0]]
            for more in range(places, most + 1):
                room = least[:place] + (more,) + least[place + 1:]
                used = plain_fixed(flow, loop, room, 4)
                if all(len(cells) == 1 for row in used.values() for (_, at), cells in row.items() if at == place):
                    found.append(more)
                    break
            else:
                found.append(None)
        return tuple(found)


if __name__ == "__main__":
    unittest.main()
