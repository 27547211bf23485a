"""Point 1: what holds of every function, whatever it is passed."""

import copy
import unittest

from cases import ErrorCase
from rateflows.errors import BadBox, BadFiring, BadFlow, BadMarks, BadWord, FlowError
from rateflows.firing import fireable, fired, lacking, line, peaks, run
from rateflows.flows import into, is_tied, knots, marks, out_of, parts, turned, with_marks
from samples import FLOWS, LONE, PAIR, RING, STRANGE

ALONE = (parts, knots, is_tied, marks, turned, fireable)
WITH_BOX = (into, out_of, lacking, fired)
WITH_WORD = (run, line, peaks)
# For each function of two arguments a second one that is right with RING.
BESIDE = {into: 1, out_of: 1, lacking: 1, fired: 0, run: (0, 0, 1), line: (0, 0, 1), peaks: (0, 0, 1),
          with_marks: (5, 6)}
# Values that look like the answer, but for one thing: a list, True or False.
TWINS = ([2, RING[1]], (2, [*RING[1]]), (True, ()), (2, ((False, True, 2, 3, 1),)), (2, ((0, 1, True, 3, 1),)),
         (2, ((0, 1, 2, True, 1),)), (2, ((0, 1, 2, 3, True),)), (2, ([0, 1, 2, 3, 1],)), {0: 2, 1: ()})


def all_calls():
    """Return pairs of a function and arguments, right ones and wrong ones."""
    flows = [*FLOWS, *STRANGE, *TWINS]
    seconds = [*STRANGE, 0, 1, 2, -1, (0, 0), (0, 0, 1), (1, 1), [0, 0, 1], {0: [1]}, ((0,), [1])]
    calls = [(ask, (flow,)) for ask in ALONE for flow in flows]
    return calls + [(ask, (flow, other)) for ask in BESIDE for flow in flows for other in seconds]


def outcome(ask, arguments):
    """Return a text of what a call returned or raised."""
    try:
        return repr(ask(*arguments))
    except FlowError as error:
        return repr((error.__class__.__name__, vars(error)))


def kinds_within(value):
    """Return the set of the kinds of the values within a value."""
    if not isinstance(value, (tuple, list)):
        return {value.__class__}
    return {value.__class__}.union(*map(kinds_within, value))


class ArgumentsTest(ErrorCase):
    def test_any_value_for_the_flow(self):
        for value in (*STRANGE, 0, 2, (2,), (2, (), ())):
            for ask in ALONE:
                with self.subTest(ask=ask, value=value):
                    self.assert_error(BadFlow, None, ask, value)
            for ask, other in BESIDE.items():
                with self.subTest(ask=ask, value=value):
                    self.assert_error(BadFlow, None, ask, value, other)

    def test_an_item_that_is_no_pipe(self):
        pipe = RING[1][0]
        for item in (*STRANGE, (0, 2, 1, 1, 0), (0, 1, 0, 1, 0), (0, 1, 1, 1000, 0), (0, 1, 1, 1, 100000)):
            for ask in ALONE:
                with self.subTest(ask=ask, item=item):
                    self.assert_error(BadFlow, 1, ask, (2, (pipe, item, pipe)))
            for ask, other in BESIDE.items():
                with self.subTest(ask=ask, item=item):
                    self.assert_error(BadFlow, 1, ask, (2, (pipe, item, pipe)), other)

    def test_true_and_false_are_not_integers(self):
        for ask in WITH_BOX:
            self.assert_plain_error(BadBox, ask, RING, False)
            self.assert_plain_error(BadBox, ask, RING, True)
        for ask in WITH_WORD:
            self.assert_error(BadWord, None, ask, RING, (False,))
        self.assert_error(BadMarks, 1, with_marks, RING, (5, True))
        for index, flow in enumerate(TWINS):
            told = None if index in (0, 1, 2, 8) else 0
            for ask in ALONE:
                with self.subTest(ask=ask, flow=flow):
                    self.assert_error(BadFlow, told, ask, flow)

    def test_the_error_of_the_leftmost_argument(self):
        for ask in BESIDE:
            for other in (*STRANGE, 9, (9,), (-1,)):
                with self.subTest(ask=ask, other=other):
                    self.assert_error(BadFlow, None, ask, (0, ()), other)
                    self.assert_error(BadFlow, None, ask, [], other)
                    self.assert_error(BadFlow, 0, ask, (2, (PAIR,)), other)

    def test_the_error_that_is_named_first(self):
        self.assert_plain_error(BadBox, fired, RING, 2)
        self.assert_plain_error(BadFiring, fired, RING, 1)
        self.assert_error(BadMarks, None, with_marks, RING, (-1,))
        self.assert_error(BadMarks, 0, with_marks, RING, (-1, None))
        self.assert_error(BadWord, None, run, RING, (1, 2))

    def test_nothing_but_errors_of_the_program_is_raised(self):
        for ask, arguments in all_calls():
            with self.subTest(ask=ask, arguments=arguments):
                outcome(ask, arguments)

    def test_no_argument_is_modified(self):
        for ask, arguments in all_calls():
            before = repr(arguments)
            outcome(ask, arguments)
            self.assertEqual(repr(arguments), before)

    def test_equal_arguments_have_equal_answers(self):
        for ask, arguments in all_calls():
            first = outcome(ask, arguments)
            self.assertEqual(outcome(ask, copy.deepcopy(arguments)), first)

    def test_answers_are_of_integers_and_tuples_only(self):
        for flow in FLOWS:
            for ask in (parts, knots, marks, turned, fireable):
                self.assertEqual(kinds_within(ask(flow)) - {int}, {tuple})
            self.assertIs(is_tied(flow).__class__, bool)
            self.assertEqual(kinds_within(with_marks(flow, marks(flow))), {int, tuple})
            self.assertEqual(kinds_within([into(flow, 0), out_of(flow, 0), lacking(flow, 0)]) - {int}, {list, tuple})
            for ask in WITH_WORD:
                self.assertEqual(kinds_within(ask(flow, (0,) * (0 in fireable(flow)))) - {int}, {tuple})
        self.assertEqual(kinds_within([fired(LONE, 0), fired(RING, 0), run(RING, (0, 0, 1))]), {int, list, tuple})


if __name__ == "__main__":
    unittest.main()
