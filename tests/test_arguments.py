"""Point 1: what holds of every function, whatever it is passed."""

import copy
import unittest

from cases import ErrorCase
from rateflows.balance import is_balanced, repetitions, shows_tilt, tilt
from rateflows.counts import blame, can_do, ends, most_done, shows_blame, shows_word, waits, ways, word_for
from rateflows.errors import (BadBox, BadCode, BadCount, BadCounts, BadFiring, BadFlow, BadLoop, BadMarks, BadOrder,
                              BadPipe, BadRoom, BadSet, BadTimes, BadWord, FlowError, InvalidText, NotBalanced,
                              NotLive, NotText, TooMany)
from rateflows.firing import fireable, fired, lacking, line, peaks, run
from rateflows.flows import into, is_tied, knots, marks, out_of, parts, turned, with_marks
from rateflows.flowtext import read_flow, write_flow
from rateflows.joins import beside, least_form, renamed, without_pipe
from rateflows.live import endless, is_live, most_ever, round_word
from rateflows.loops import (appearances, depth, fold_size, folded, is_schedule, loop_room, shows_fold, unrolled,
                             write_loop)
from rateflows.looptext import read_loop
from rateflows.machine import code_of, done_steps, fixed_room, fixed_steps, loop_of, trace
from rateflows.reach import all_come, comes, counts_to
from rateflows.room import branches, is_enough, least_room, least_rooms, most_with, own_rooms, roomed, word_room
from rateflows.sets import all_safe, as_one, is_safe, set_round, set_shares, unfolded, within
from rateflows.single import forward_orders, has_single, least_nest, shows_single, single
from rateflows.speed import box_means, first_time, mean_time, settled, shows_slow_ring, slow_ring, start_times
from rateflows.unroll import firings, needs
from samples import DEAD, DEAD_HEAVY, FLOWS, HEAVY, LONE, PAIR, RING, SKEW, STRANGE, TILTED

# For each function the kinds of its arguments; a value may be any.
KINDS = {
    parts: ("flow",), knots: ("flow",), is_tied: ("flow",), marks: ("flow",), turned: ("flow",),
    into: ("flow", "box"), out_of: ("flow", "box"), with_marks: ("flow", "marks"),
    fireable: ("flow",), lacking: ("flow", "box"), fired: ("flow", "box"),
    run: ("flow", "word"), line: ("flow", "word"), peaks: ("flow", "word"),
    write_flow: ("flow",), read_flow: ("text",),
    is_balanced: ("flow",), repetitions: ("flow",), tilt: ("flow",), shows_tilt: ("flow", "value"),
    ends: ("flow", "counts"), can_do: ("flow", "counts"), most_done: ("flow", "counts"), waits: ("flow", "counts"),
    blame: ("flow", "counts"), shows_blame: ("flow", "counts", "value"), word_for: ("flow", "counts"),
    shows_word: ("flow", "counts", "value"), ways: ("flow", "counts"),
    is_live: ("flow",), round_word: ("flow",), endless: ("flow",), most_ever: ("flow",),
    counts_to: ("flow", "marks"), comes: ("flow", "marks"), all_come: ("flow",),
    roomed: ("flow", "room"), most_with: ("flow", "room", "counts"), is_enough: ("flow", "room"),
    own_rooms: ("flow",), branches: ("flow",), word_room: ("flow",), least_room: ("flow",),
    least_rooms: ("flow", "room"),
    unrolled: ("loop",), appearances: ("loop",), depth: ("loop",), write_loop: ("loop",),
    is_schedule: ("flow", "loop"), loop_room: ("flow", "loop"),
    fold_size: ("boxes",), folded: ("boxes",), shows_fold: ("boxes", "value"),
    read_loop: ("loop text",),
    has_single: ("flow",), single: ("flow",), shows_single: ("flow", "value"), forward_orders: ("flow",),
    least_nest: ("flow", "order"),
    set_shares: ("flow", "set"), as_one: ("flow", "set"), within: ("flow", "set"), is_safe: ("flow", "set"),
    all_safe: ("flow",), unfolded: ("flow", "set", "word"), set_round: ("flow", "set"),
    firings: ("flow",), needs: ("flow",),
    start_times: ("flow", "times", "many"), first_time: ("flow", "times"), mean_time: ("flow", "times"),
    slow_ring: ("flow", "times"), shows_slow_ring: ("flow", "times", "value"), box_means: ("flow", "times"),
    settled: ("flow", "times"),
    code_of: ("loop",), loop_of: ("code",), done_steps: ("code",), trace: ("flow", "code", "room"),
    fixed_steps: ("flow", "loop", "room"), fixed_room: ("flow", "loop"),
    renamed: ("flow", "order"), least_form: ("flow",), beside: ("flow", "other flow"), without_pipe: ("flow", "pipe"),
}
# Those that look at each firing of a round, that are for flows that live, that ask whether one does, that need balance.
OF_FIRINGS = (firings, needs, start_times, first_time, mean_time, slow_ring, shows_slow_ring, box_means, settled)
FOR_LIVE = (*OF_FIRINGS, round_word, own_rooms, word_room, least_room, least_rooms, has_single, single, shows_single,
            least_nest, is_safe, all_safe, unfolded, set_round)
OF_ROUNDS = (*FOR_LIVE, is_live, endless, most_ever, is_enough)
FOR_BALANCED = (*OF_ROUNDS, repetitions, counts_to, comes, is_schedule, loop_room, set_shares, as_one, fixed_steps,
                fixed_room)
# For each kind what is right with RING, and the error for what is wrong.
RIGHT = {"flow": RING, "box": 0, "marks": (5, 6), "word": (0, 0, 1), "text": "2 0*2>1>3*1", "counts": (1, 1),
         "room": (5, 5), "loop": (0, (2, (0, 1))), "boxes": (0, 0, 1), "value": None, "loop text": "0 (2 1)",
         "order": (1, 0), "set": (0,), "times": (3, 4), "many": 2, "pipe": 1, "other flow": PAIR,
         "code": (("fire", 0), ("repeat", 2), ("fire", 0), ("fire", 1), ("again",))}
ERRORS = {"flow": BadFlow, "box": BadBox, "marks": BadMarks, "word": BadWord, "text": NotText, "counts": BadCounts,
          "room": BadRoom, "loop": BadLoop, "boxes": BadWord, "loop text": NotText, "order": BadOrder, "set": BadSet,
          "times": BadTimes, "many": BadCount, "pipe": BadPipe, "other flow": BadFlow, "code": BadCode}
PLAIN = (BadBox, NotText, BadLoop, BadOrder, BadSet, BadCount, BadPipe)
# Those of which the error tells the index of an item, if there are as many items as there should be.
ROWS = ("marks", "counts", "room", "times")
# Functions that judge a value, each with first arguments.
JUDGES = {shows_tilt: (RING, TILTED, PAIR), shows_blame: (RING, TILTED, PAIR), shows_word: (RING, TILTED, PAIR),
          shows_fold: ((), (0, 0), (0, 0, 1, 0, 0, 1)), shows_single: (RING, PAIR, SKEW, LONE),
          shows_slow_ring: (RING, PAIR, (2, ()))}
# Values that look like the flow, but for one thing: a list, True or False.
TWINS = ([2, RING[1]], (2, [*RING[1]]), (True, ()), (2, ((False, True, 2, 3, 1),)), (2, ((0, 1, True, 3, 1),)),
         (2, ((0, 1, 2, True, 1),)), (2, ((0, 1, 2, 3, True),)), (2, ([0, 1, 2, 3, 1],)), {0: 2, 1: ()})
# Values that some function takes, and others that are nearly so.
COMMON = (0, 1, 2, -1, 201, (), (0, 0), (1, 1), (0, 0, 1), (201, 1), (True, False), [0, 0], [0, 0, 1], {0: [1]},
          ((0,), [1]), ((0, True), (1, True)), [(0, True), (1, True)],
          (4, 5), [4, 5], (0, (2, (0, 1))), ((2, (0,)), 1), ((2, ()),), [(2, [0]), 1], "1",
          "2 0*2>1>3*1", "2 0*2", (("fire", 0), ("fire", 0), ("fire", 1)), (("repeat", 2), ("fire", 0)),
          (((0, 0), (0, 1), 0), ((0, 1), (0, 2), 0), ((0, 2), (0, 0), 1)))


def right_arguments(ask):
    return [RIGHT[kind] for kind in KINDS[ask]]


def wrong_values(kind):
    """Return the values that are wrong for an argument of a kind, each with the fields of its error."""
    values = [value for value in STRANGE if "text" not in kind or not isinstance(value, str)]
    if kind == "value":
        return []
    if ERRORS[kind] in PLAIN:
        return [(value, {}) for value in values]
    if kind == "code":
        return [(value, {"index": 0 if isinstance(value, tuple) else None}) for value in values]
    if kind not in ROWS:
        return [(value, {"index": None}) for value in values]
    return [(value, {"index": 0 if isinstance(value, tuple) and len(value) == 2 else None}) for value in values]


def all_calls():
    """Return pairs of a function and arguments, right ones and wrong ones."""
    flows = [*FLOWS, TILTED, *STRANGE, *TWINS]
    calls = []
    for ask, kinds in KINDS.items():
        right = right_arguments(ask)
        for flow in (flows if kinds[0] == "flow" else COMMON + STRANGE):
            calls.append((ask, (flow, *right[1:])))
            if len(kinds) == 2:
                calls.extend((ask, (flow, value)) for value in COMMON)
        for at in range(len(kinds)):
            calls.extend((ask, (*right[:at], value, *right[at + 1:])) for value in (*COMMON, *STRANGE))
    return calls


def outcome(ask, arguments):
    """Return a text of what a call returned or raised."""
    try:
        return repr(ask(*arguments))
    except FlowError as error:
        return repr((error.__class__.__name__, vars(error)))


def kinds_within(value):
    """Return the set of the kinds of the values within a value."""
    if not isinstance(value, (tuple, list)):
        return {value.__class__}
    return {value.__class__}.union(*map(kinds_within, value))


class ArgumentsTest(ErrorCase):
    def test_any_value_for_each_argument(self):
        for ask, kinds in KINDS.items():
            right = right_arguments(ask)
            for at, kind in enumerate(kinds):
                for value, fields in wrong_values(kind):
                    with self.subTest(ask=ask, at=at, value=value):
                        self.assert_fields(ERRORS[kind], fields, ask, *right[:at], value, *right[at + 1:])

    def test_the_error_of_the_leftmost_argument(self):
        for ask, kinds in KINDS.items():
            right = right_arguments(ask)
            for at, kind in enumerate(kinds[:-1]):
                for value, fields in wrong_values(kind):
                    for other in (None, True, (-1,), (201, 201), [0]):
                        behind = [other for _ in kinds[at + 1:]]
                        with self.subTest(ask=ask, at=at, value=value, other=other):
                            self.assert_fields(ERRORS[kind], fields, ask, *right[:at], value, *behind)

    def test_an_item_that_is_no_pipe(self):
        pipe = RING[1][0]
        for item in (*STRANGE, (0, 2, 1, 1, 0), (0, 1, 0, 1, 0), (0, 1, 1, 1000, 0), (0, 1, 1, 1, 100000)):
            for ask, kinds in KINDS.items():
                if kinds[0] == "flow":
                    with self.subTest(ask=ask, item=item):
                        flow = (2, (pipe, item, pipe))
                        self.assert_error(BadFlow, 1, ask, flow, *right_arguments(ask)[1:])
                        self.assert_error(BadFlow, 1, ask, flow, *[None for _ in kinds[1:]])

    def test_true_and_false_are_not_integers(self):
        for ask, kinds in KINDS.items():
            right = right_arguments(ask)
            if "box" in kinds:
                self.assert_plain_error(BadBox, ask, RING, False)
                self.assert_plain_error(BadBox, ask, RING, True)
            if "word" in kinds:
                self.assert_error(BadWord, None, ask, *right[:-1], (False,))
                self.assert_error(BadWord, None, ask, *right[:-1], (0, 0, True))
            if "order" in kinds:
                self.assert_plain_error(BadOrder, ask, PAIR, (False, True))
                self.assert_plain_error(BadOrder, ask, PAIR, (0, True))
            if "set" in kinds:
                self.assert_plain_error(BadSet, ask, RING, (False,), *right[2:])
                self.assert_plain_error(BadSet, ask, RING, (0, True), *right[2:])
            for kind in ROWS:
                if kind in kinds:
                    at = kinds.index(kind)
                    self.assert_error(ERRORS[kind], 0, ask, *right[:at], (False, 5), *right[at + 1:])
                    self.assert_error(ERRORS[kind], 1, ask, *right[:at], (5, True), *right[at + 1:])
            if "loop" in kinds:
                at = kinds.index("loop")
                for loop in ((False,), ((2, (True,)),), ((True, (0,)),)):
                    self.assert_plain_error(BadLoop, ask, *right[:at], loop, *right[at + 1:])
            if "code" in kinds:
                at = kinds.index("code")
                for code in ((("fire", False),), (("repeat", True), ("fire", 0), ("again",))):
                    self.assert_error(BadCode, 0, ask, *right[:at], code, *right[at + 1:])
            if "many" in kinds:
                self.assert_plain_error(BadCount, ask, *right[:-1], True)
            if "pipe" in kinds:
                self.assert_plain_error(BadPipe, ask, RING, False)
                self.assert_plain_error(BadPipe, ask, RING, True)
            if "boxes" in kinds:
                self.assert_error(BadWord, None, ask, (0, True), *right[1:])
            for index, flow in enumerate(TWINS):
                if kinds[0] == "flow":
                    told = None if index in (0, 1, 2, 8) else 0
                    with self.subTest(ask=ask, flow=flow):
                        self.assert_error(BadFlow, told, ask, flow, *right[1:])

    def test_the_error_that_is_named_first(self):
        self.assert_plain_error(BadBox, fired, RING, 2)
        self.assert_plain_error(BadFiring, fired, RING, 1)
        self.assert_error(BadMarks, None, with_marks, RING, (-1,))
        self.assert_error(BadMarks, 0, with_marks, RING, (-1, None))
        self.assert_error(BadWord, None, run, RING, (1, 2))
        self.assert_fields(InvalidText, {"place": 0}, read_flow, "0 9")
        self.assert_fields(InvalidText, {"place": 1}, read_loop, "(0 9)")
        self.assert_plain_error(BadSet, set_round, (3, ((0, 1, 1, 1, 0), (1, 2, 1, 1, 0))), (0, 2))
        self.assert_error(BadCode, 2, loop_of, (("repeat", 2), ("repeat", 2), ("again",)))
        self.assert_fields(TooMany, {"most": 8}, beside, (8, ()), (8, RING[1] * 8))

    def test_errors_of_the_flow_come_ahead_of_those_of_other_arguments(self):
        for ask in FOR_BALANCED:
            rest = [None for _ in KINDS[ask][1:]]
            with self.subTest(ask=ask):
                self.assert_error(BadFlow, None, ask, (9, ()), *rest)
                self.assert_plain_error(NotBalanced, ask, TILTED, *rest)
                self.assert_plain_error(NotBalanced, ask, (HEAVY[0], HEAVY[1] + ((4, 4, 1, 2, 0),)), *rest)
                if ask in OF_ROUNDS:
                    self.assert_fields(TooMany, {"most": 2000}, ask, HEAVY, *rest)
                    self.assert_fields(TooMany, {"most": 2000}, ask, DEAD_HEAVY, *rest)
                if ask in FOR_LIVE:
                    self.assert_plain_error(NotLive, ask, DEAD, *rest)
                if ask in OF_FIRINGS:
                    over = ((0, 1, 120, 1, 0),)
                    self.assert_fields(TooMany, {"most": 120}, ask, (2, over), *rest)
                    self.assert_plain_error(NotLive, ask, (2, over + ((1, 1, 1, 1, 0),)), *rest)

    def test_more_of_a_flow_than_there_may_be_and_a_wrong_argument(self):
        for ask, kinds in KINDS.items():
            if kinds[0] == "flow":
                rest = [None for _ in kinds[1:]]
                with self.subTest(ask=ask):
                    self.assert_error(BadFlow, None, ask, (2, RING[1] * 9), *rest)
                    self.assert_error(BadFlow, None, ask, (9, RING[1]), *rest)
                    self.assert_error(BadFlow, 1, ask, (2, (RING[1][0], (0, 1, 1000, 1, 0))), *rest)

    def test_too_much_in_a_right_flow_and_a_wrong_argument(self):
        # What is too much but for the flow is told of behind the wrong argument, or is that of an argument itself.
        wide, over = (2, ((0, 1, 1, 1, 0),) * 9), (3, ((0, 1, 1, 500, 0), (0, 2, 2, 1, 0)))
        self.assert_error(BadRoom, None, roomed, wide, (1,) * 8)
        self.assert_error(BadCounts, 0, ways, RING, (201, 200))
        self.assert_error(BadRoom, 1, least_rooms, RING, (99999, 100000))
        self.assert_error(BadWord, None, shows_fold, [0] * 25, None)
        self.assert_plain_error(BadSet, as_one, over, (1, 0))
        self.assert_plain_error(BadSet, is_safe, over, (1, 0))
        self.assert_plain_error(BadSet, set_round, over, (1, 0))
        self.assert_plain_error(BadSet, unfolded, over, (1, 0), (0,) * 2001)
        self.assert_error(BadWord, None, unfolded, over, (0, 1), (0,) * 2001)
        self.assert_error(BadFlow, 9, beside, (8, ()), (2, wide[1] + (None,)))
        self.assert_error(BadFlow, None, beside, (2, wide[1]), (2, wide[1] * 2))
        self.assert_error(BadWord, None, run, RING, (0,) * 2001)
        self.assert_error(BadTimes, 1, start_times, RING, (99, 100), 61)
        self.assert_plain_error(BadCount, start_times, RING, (99, 99), 61)
        self.assert_plain_error(BadLoop, fixed_steps, RING, ((999, (0, 1, 0)),), None)
        self.assert_error(BadCode, None, trace, RING, (("repeat", 999), *RIGHT["code"], ("again",)), None)
        self.assert_error(BadRoom, 0, fixed_steps, RING, RIGHT["loop"], (100000, 4))
        self.assert_error(BadRoom, None, fixed_steps, RING, RIGHT["loop"], (4, 4))
        self.assert_plain_error(BadOrder, renamed, (8, ()), (0,) * 9)
        self.assert_plain_error(BadPipe, without_pipe, (2, RING[1] * 8), 16)

    def test_too_many_for_other_reasons_comes_behind_all_others(self):
        wide = (2, ((0, 1, 1, 1, 0),) * 9)
        self.assert_fields(TooMany, {"most": 8}, roomed, wide, (1,) * 9)
        self.assert_error(BadRoom, 8, roomed, wide, (1,) * 8 + (-1,))
        self.assert_fields(TooMany, {"most": 3000}, ways, RING, (200, 200))
        self.assert_error(BadCounts, 1, ways, RING, (200, 201))
        self.assert_fields(TooMany, {"most": 3000}, least_rooms, SKEW, (99, 99, 99))
        self.assert_error(BadRoom, 2, least_rooms, SKEW, (99, 99, -1))
        self.assert_fields(TooMany, {"most": 24}, folded, (0,) * 25)
        self.assert_error(BadWord, None, folded, (0,) * 25 + (8,))
        over = (3, ((0, 1, 1, 500, 0), (0, 2, 2, 1, 0)))
        self.assert_fields(TooMany, {"most": 999}, as_one, over, (0, 1))
        self.assert_plain_error(BadSet, as_one, over, (0, 1, 1))
        self.assert_fields(TooMany, {"most": 6}, all_safe, (7, ()))
        self.assert_fields(TooMany, {"most": 6}, least_form, (7, ()))
        self.assert_error(BadFlow, 0, least_form, (7, (None,)))
        self.assert_fields(TooMany, {"most": 8}, beside, (8, ()), LONE)
        self.assert_error(BadFlow, None, beside, (8, ()), (0, ()))
        self.assert_fields(TooMany, {"most": 16}, beside, wide, wide)
        self.assert_error(BadFlow, 8, beside, wide, (2, wide[1][1:] + (None,)))

    def test_a_function_that_judges_returns_a_result_for_every_value(self):
        for ask in JUDGES:
            for first in JUDGES[ask]:
                right = [first, *right_arguments(ask)[1:-1]]
                for value in (*STRANGE, *COMMON, *TWINS, *FLOWS):
                    with self.subTest(ask=ask, first=first, value=value):
                        self.assertIn(repr(ask(*right, value)), ("True", "False"))

    def test_nothing_but_errors_of_the_program_is_raised(self):
        for ask, arguments in all_calls():
            with self.subTest(ask=ask, arguments=arguments):
                outcome(ask, arguments)

    def test_no_argument_is_modified(self):
        for ask, arguments in all_calls():
            before = repr(arguments)
            outcome(ask, arguments)
            self.assertEqual(repr(arguments), before)

    def test_equal_arguments_have_equal_answers(self):
        for ask, arguments in all_calls():
            first = outcome(ask, arguments)
            self.assertEqual(outcome(ask, copy.deepcopy(arguments)), first)

    def test_answers_are_of_integers_and_tuples_only(self):
        for flow in FLOWS:
            for ask in (parts, knots, marks, turned, fireable):
                self.assertEqual(kinds_within(ask(flow)) - {int}, {tuple})
            self.assertIs(is_tied(flow).__class__, bool)
            self.assertIs(is_balanced(flow).__class__, bool)
            self.assertEqual(kinds_within(with_marks(flow, marks(flow))), {int, tuple})
            self.assertEqual(kinds_within([into(flow, 0), out_of(flow, 0), lacking(flow, 0)]) - {int}, {list, tuple})
            for ask in (run, line, peaks):
                self.assertEqual(kinds_within(ask(flow, (0,) * (0 in fireable(flow)))) - {int}, {tuple})
            counts = (2,) * flow[0]
            for ask in (ends, most_done, waits):
                self.assertEqual(kinds_within(ask(flow, counts)) - {int}, {tuple})
            room = tuple(pipe[4] + pipe[2] for pipe in flow[1])
            if max(room, default=0) <= 99999:
                self.assertEqual(kinds_within(most_with(flow, room, counts)) - {int}, {tuple})
            self.assertIs(can_do(flow, counts).__class__, bool)
            found = kinds_within([word_for(flow, counts), blame(flow, counts)])
            self.assertEqual(found, {list, tuple, int, type(None)})
        self.assertEqual(kinds_within([fired(LONE, 0), fired(RING, 0), run(RING, (0, 0, 1))]), {int, list, tuple})
        self.assertEqual(kinds_within([repetitions(RING), read_flow("2 0*2>1>3*1")]), {int, list, tuple})
        self.assertIs(ways(RING, (1, 1)).__class__, int)
        for flow in (RING, SKEW, PAIR):
            for ask in (round_word, endless, own_rooms, word_room, least_room):
                self.assertEqual(kinds_within(ask(flow)), {int, tuple})
        self.assertEqual(kinds_within([most_ever(DEAD), counts_to(RING, (0, 5))]), {list, tuple, int, type(None)})
        self.assertEqual(kinds_within([unrolled((0,)), appearances((0,)), folded((0, 0))]), {list, tuple, int})
        self.assertEqual(kinds_within(loop_room(RING, (0, (2, (0, 1))))), {tuple, int})
        for some in ((0,), (1, 2), (0, 1, 2)):
            for ask in (set_shares, as_one, within, set_round):
                self.assertEqual(kinds_within(ask(SKEW, some)), {tuple, int})
        told = [single(PAIR), unfolded(PAIR, (0,), (0,)), read_loop("0 (2 1)")]
        self.assertEqual(kinds_within(told), {list, tuple, int})
        self.assertEqual(kinds_within(least_nest(PAIR, (0, 1))), {tuple, int})
        for ask in (firings, needs):
            self.assertEqual(kinds_within(ask(RING)), {tuple, int})
        for ask in (mean_time, slow_ring, box_means, settled):
            self.assertEqual(kinds_within(ask(RING, (1, 1))), {tuple, int})
        self.assertEqual(kinds_within([start_times(RING, (3, 4), 2), first_time(RING, (3, 4))]), {list, tuple, int})
        self.assertEqual(kinds_within([code_of((0, (2, (1,)))), loop_of(RIGHT["code"])]), {list, tuple, int, str})
        told = [done_steps(RIGHT["code"]), trace(RING, RIGHT["code"], (5, 5))]
        self.assertEqual(kinds_within(told), {list, tuple, int})
        self.assertEqual(kinds_within(fixed_steps(RING, RIGHT["loop"], (5, 5))), {tuple, bool})
        self.assertEqual(kinds_within(fixed_room((2, ((0, 1, 1, 2, 0),)), (0, 0, 1))), {tuple, int})
        told = [renamed(RING, (1, 0)), least_form(RING), beside(RING, RING), without_pipe(RING, 1)]
        self.assertEqual(kinds_within(told), {list, tuple, int})
        self.assertEqual([has_single(RING).__class__, is_safe(RING, (0,)).__class__], [bool, bool])
        self.assertEqual([ask(RING).__class__ for ask in (is_live, branches)], [bool, bool])
        self.assertEqual([comes(RING, (0, 5)).__class__, is_enough(RING, (5, 5)).__class__], [bool, bool])
        self.assertEqual([ask((0,)).__class__ for ask in (depth, fold_size, write_loop)], [int, int, str])

    def test_returned_lists_are_new(self):
        for ask, right in ((all_come, (RING,)), (least_rooms, (RING, (6, 6))), (forward_orders, (PAIR,)),
                           (all_safe, (RING,))):
            first = ask(*right)
            self.assertIs(first.__class__, list)
            self.assertEqual(kinds_within(first), {list, tuple, int})
            self.assertIsNot(ask(*right), first)
            told = repr(first)
            first.append(None)
            self.assertEqual(repr(ask(*right)), told)


if __name__ == "__main__":
    unittest.main()
