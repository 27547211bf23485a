"""Point 2: what a flow is, and what is told of its boxes and pipes."""

import unittest

from cases import ErrorCase
from rateflows.errors import BadBox, BadFlow, BadMarks
from rateflows.flows import into, is_tied, knots, marks, out_of, parts, turned, with_marks
from samples import FLOWS, LONE, MIXED, OWN, PAIR, RING, STRANGE, WIDEST, random_flow

PIPE = (0, 1, 1, 1, 0)


def leads(flow, both):
    """Return the set of the pairs of boxes of which the one leads to the other, by Warshall's way."""
    boxes, pipes = flow
    told = {(box, box) for box in range(boxes)} | {pipe[:2] for pipe in pipes}
    if both:
        told |= {(other, one) for one, other in told}
    for middle in range(boxes):
        for one in range(boxes):
            for other in range(boxes):
                if (one, middle) in told and (middle, other) in told:
                    told.add((one, other))
    return told


def classes(flow, both):
    told = leads(flow, both)
    boxes = range(flow[0])
    groups = {tuple(b for b in boxes if (a, b) in told and (b, a) in told) for a in boxes}
    return tuple(sorted(groups))


class FlowTest(ErrorCase):
    def assert_flow(self, flow):
        self.assertEqual(marks(flow), tuple(pipe[4] for pipe in flow[1]))

    def assert_bad(self, flow, index):
        with self.subTest(flow=flow):
            self.assert_error(BadFlow, index, marks, flow)

    def test_numbers_of_boxes(self):
        for boxes in range(1, 9):
            self.assert_flow((boxes, ()))
        for boxes in (0, 9, -1, 10 ** 30, True, False, None, "2", (2,), [2], {2: 2}):
            self.assert_bad((boxes, ()), None)

    def test_numbers_of_pipes(self):
        self.assert_flow((2, ()))
        self.assert_flow((2, (PIPE,) * 16))
        self.assert_bad((2, (PIPE,) * 17), None)

    def test_seventeen_items_are_no_such_tuple_whatever_they_are(self):
        self.assert_bad((2, (None,) * 17), None)
        self.assert_bad((2, (None,) + (PIPE,) * 16), None)
        self.assert_bad((2, (PIPE,) * 16 + (None,)), None)

    def test_values_that_are_no_pairs(self):
        for value in (*STRANGE, 0, 1, 2, -1, (), (2,), (2, (), ()), [2, ()], {0: 2, 1: ()}, ((), 2), "2 "):
            self.assert_bad(value, None)

    def test_pipes_are_a_tuple(self):
        for pipes in ([], [PIPE], {}, {0: PIPE}, "", "ab", None, 0, True):
            self.assert_bad((2, pipes), None)

    def test_the_number_of_boxes_comes_ahead_of_the_pipes(self):
        self.assert_bad((9, (None,)), None)
        self.assert_bad((0, ((0, 0, 1, 1, 0),)), None)
        self.assert_bad((True, (None,)), None)

    def test_items_that_are_no_pipes(self):
        for item in (*STRANGE, 0, (), (0, 1, 1, 1), (0, 1, 1, 1, 0, 0), list(PIPE), "01110", (PIPE,)):
            self.assert_bad((2, (item,)), 0)
            self.assert_bad((2, (PIPE, PIPE, item, None)), 2)

    def test_the_last_pipe(self):
        self.assert_bad((2, (PIPE,) * 15 + ((0, 2, 1, 1, 0),)), 15)

    def test_ends_of_pipes(self):
        for boxes in (1, 2, 8):
            for end in range(boxes):
                self.assert_flow((boxes, ((end, boxes - 1, 1, 1, 0), (0, end, 1, 1, 0))))
            for end in (-1, boxes, boxes + 1, True, False, None, "0", (0,), [0]):
                self.assert_bad((boxes, ((0, 0, 1, 1, 0), (end, 0, 1, 1, 0))), 1)
                self.assert_bad((boxes, ((0, 0, 1, 1, 0), (0, end, 1, 1, 0))), 1)

    def test_rates(self):
        for rate in (1, 2, 998, 999):
            self.assert_flow((2, ((0, 1, rate, 1, 0), (0, 1, 1, rate, 0))))
        for rate in (0, 1000, -1, 10 ** 30, True, False, None, "1", (1,), [1]):
            self.assert_bad((2, (PIPE, (0, 1, rate, 1, 0))), 1)
            self.assert_bad((2, (PIPE, (0, 1, 1, rate, 0))), 1)

    def test_tokens(self):
        for tokens in (0, 1, 99998, 99999):
            self.assert_flow((2, ((0, 1, 1, 1, tokens),)))
        for tokens in (-1, 100000, -10 ** 30, 10 ** 30, True, False, None, "1", (1,), [1]):
            self.assert_bad((2, (PIPE, (0, 1, 1, 1, tokens))), 1)


class BoxesAndPipesTest(ErrorCase):
    def test_into_and_out_of(self):
        self.assertEqual([into(MIXED, box) for box in range(5)], [(2,), (0, 1), (3,), (4,), ()])
        self.assertEqual([out_of(MIXED, box) for box in range(5)], [(0, 1), (2, 4), (3,), (), ()])
        self.assertEqual([into(OWN, 0), out_of(OWN, 0)], [(0,), (0,)])
        self.assertEqual([into(LONE, 0), out_of(LONE, 0)], [(), ()])

    def test_each_pipe_leads_from_one_box_to_one_other(self):
        for flow in (*FLOWS, *map(random_flow, range(60))):
            pipes = flow[1]
            for box in range(flow[0]):
                self.assertEqual(into(flow, box), tuple(k for k in range(len(pipes)) if pipes[k][1] == box))
                self.assertEqual(out_of(flow, box), tuple(k for k in range(len(pipes)) if pipes[k][0] == box))

    def test_bad_boxes(self):
        for ask in (into, out_of):
            for box in (*STRANGE, -1, 2, 8, 10 ** 30, (0,), (1,)):
                with self.subTest(ask=ask, box=box):
                    self.assert_plain_error(BadBox, ask, RING, box)
            self.assert_plain_error(BadBox, ask, LONE, 1)
            self.assert_plain_error(BadBox, ask, WIDEST, 8)


class GroupsTest(ErrorCase):
    def test_parts(self):
        self.assertEqual(parts(LONE), ((0,),))
        self.assertEqual(parts(OWN), ((0,),))
        self.assertEqual(parts((8, ())), tuple((box,) for box in range(8)))
        self.assertEqual(parts(MIXED), ((0, 1, 3), (2,), (4,)))
        chain = tuple((box + 1, box, 1, 1, 0) for box in range(7))
        self.assertEqual(parts((8, chain)), (tuple(range(8)),))

    def test_parts_are_joined_against_the_directions_too(self):
        self.assertEqual(parts((4, ((3, 0, 1, 1, 0), (3, 2, 1, 1, 0)))), ((0, 2, 3), (1,)))
        self.assertEqual(parts((4, ((0, 3, 1, 1, 0), (2, 3, 1, 1, 0)))), ((0, 2, 3), (1,)))

    def test_knots(self):
        self.assertEqual(knots(LONE), ((0,),))
        self.assertEqual(knots(OWN), ((0,),))
        self.assertEqual(knots(PAIR), ((0,), (1,)))
        self.assertEqual(knots(MIXED), ((0, 1), (2,), (3,), (4,)))
        ring = tuple((box, (box + 3) % 8, 1, 1, 0) for box in range(8))
        self.assertEqual(knots((8, ring)), (tuple(range(8)),))
        self.assertEqual(knots((8, ring[:7])), tuple((box,) for box in range(8)))

    def test_two_rings_that_share_a_box_are_one_knot(self):
        flow = (4, ((0, 2, 1, 1, 0), (2, 0, 1, 1, 0), (2, 3, 1, 1, 0), (3, 2, 1, 1, 0), (1, 2, 1, 1, 0)))
        self.assertEqual(knots(flow), ((0, 2, 3), (1,)))

    def test_is_tied(self):
        told = [is_tied(flow) for flow in (RING, PAIR, OWN, LONE, MIXED, (8, ()))]
        self.assertEqual(repr(told), repr([True, False, True, True, False, True]))
        two = (4, ((0, 2, 1, 1, 0), (2, 0, 1, 1, 0), (1, 3, 1, 1, 0), (3, 1, 1, 1, 0)))
        self.assertIs(is_tied(two), True)
        self.assertIs(is_tied((4, two[1] + ((0, 1, 1, 1, 0),))), False)

    def test_against_another_way(self):
        for flow in (*FLOWS, *map(random_flow, range(200))):
            with self.subTest(flow=flow):
                self.assertEqual(parts(flow), classes(flow, True))
                self.assertEqual(knots(flow), classes(flow, False))
                self.assertIs(is_tied(flow), classes(flow, True) == classes(flow, False))


class MarksTest(ErrorCase):
    def test_marks(self):
        self.assertEqual(marks(MIXED), (0, 5, 2, 4, 99999))
        self.assertEqual(marks(LONE), ())

    def test_with_marks(self):
        self.assertEqual(with_marks(RING, (0, 99999)), (2, ((0, 1, 2, 3, 0), (1, 0, 3, 2, 99999))))
        self.assertEqual(with_marks(LONE, ()), LONE)
        for flow in FLOWS:
            some = tuple(range(7, 7 + len(flow[1])))
            other = with_marks(flow, some)
            self.assertEqual(marks(other), some)
            self.assertEqual(with_marks(other, marks(flow)), flow)

    def test_values_that_are_no_tuples_of_as_many_items(self):
        for some in (None, 0, 3, True, "ab", "", [0, 0], {0: 0, 1: 0}, (), (0,), (0, 0, 0), (None,), (None,) * 3):
            with self.subTest(some=some):
                self.assert_error(BadMarks, None, with_marks, RING, some)
        self.assert_error(BadMarks, None, with_marks, LONE, (0,))

    def test_items_that_are_no_tokens(self):
        for item in (*STRANGE, -1, 100000, 10 ** 30, (0,)):
            with self.subTest(item=item):
                self.assert_error(BadMarks, 0, with_marks, RING, (item, item))
                self.assert_error(BadMarks, 1, with_marks, RING, (0, item))
                self.assert_error(BadMarks, 0, with_marks, PAIR, (item,))
                self.assert_error(BadMarks, 15, with_marks, WIDEST, (0,) * 15 + (item,))

    def test_turned(self):
        self.assertEqual(turned(RING), (2, ((1, 0, 3, 2, 1), (0, 1, 2, 3, 4))))
        self.assertEqual(turned(OWN), OWN)
        self.assertEqual(turned((1, ((0, 0, 2, 5, 3),))), (1, ((0, 0, 5, 2, 3),)))
        self.assertEqual(turned(LONE), LONE)
        for flow in FLOWS:
            self.assertEqual(turned(turned(flow)), flow)
            self.assertEqual(turned(flow)[1], tuple((b, a, eat, give, n) for a, b, give, eat, n in flow[1]))


if __name__ == "__main__":
    unittest.main()
