"""The examples that stand in the interface."""

import unittest

from rateflows.errors import BadFlow, BadWord
from rateflows.firing import fireable, fired, lacking, line, peaks, run
from rateflows.flows import into, is_tied, knots, marks, out_of, parts, turned, with_marks


class ExamplesTest(unittest.TestCase):
    def test_flows(self):
        ring = (2, ((0, 1, 2, 3, 1), (1, 0, 3, 2, 4)))
        answers = [into(ring, 1), out_of(ring, 1), parts((3, ((0, 2, 1, 1, 0),))), knots(ring), is_tied(ring),
                   marks(ring), with_marks((2, ((0, 1, 2, 3, 1),)), (7,)), turned((2, ((0, 1, 2, 3, 1),)))]
        told = [(0,), (1,), ((0, 2), (1,)), ((0, 1),), True, (1, 4), (2, ((0, 1, 2, 3, 7),)), (2, ((1, 0, 3, 2, 1),))]
        self.assertEqual(repr(answers), repr(told))

    def test_flows_error(self):
        with self.assertRaises(BadFlow) as caught:
            parts((2, ((0, 1, 1, 1, 0), (0, 2, 1, 1, 0))))
        self.assertEqual(caught.exception.index, 1)

    def test_firing(self):
        pair = (2, ((0, 1, 2, 3, 1),))
        answers = [fireable(pair), lacking(pair, 1), fired(pair, 0), run(pair, (0, 1)), line(pair, (0, 1)),
                   peaks(pair, (0, 1)), peaks((1, ((0, 0, 2, 2, 3),)), (0,))]
        told = [(0,), (0,), (2, ((0, 1, 2, 3, 3),)), (2, ((0, 1, 2, 3, 0),)), ((1,), (3,), (0,)), (3,), (5,)]
        self.assertEqual(repr(answers), repr(told))

    def test_firing_error(self):
        with self.assertRaises(BadWord) as caught:
            run((2, ((0, 1, 2, 3, 1),)), (0, 1, 1))
        self.assertEqual(caught.exception.index, 2)


if __name__ == "__main__":
    unittest.main()
