"""Point 24: flows put together, and their boxes renamed."""

import itertools
import unittest

from cases import ErrorCase
from rateflows.errors import BadFlow, BadOrder, BadPipe, TooMany
from rateflows.flows import parts
from rateflows.joins import beside, least_form, renamed, without_pipe
from samples import DEAD, FLOWS, HEAVY, LONE, MIXED, OWN, PAIR, RING, SKEW, STRANGE, TILTED, WIDEST, random_flow

CYCLE = (3, ((0, 1, 2, 3, 1), (1, 2, 4, 5, 6), (2, 0, 7, 8, 9)))


def plain_renamed(flow, order):
    """Return what renamed should return, by looking for each pair of boxes at the pipes between those that they are."""
    pipes = []
    for one, other in itertools.product(range(flow[0]), repeat=2):
        pipes += sorted((one, other, *pipe[2:]) for pipe in flow[1] if pipe[:2] == (order[one], order[other]))
    return flow[0], tuple(pipes)


class RenamedTest(ErrorCase):
    def test_renamed(self):
        self.assertEqual(renamed(PAIR, (1, 0)), (2, ((1, 0, 2, 3, 1),)))
        self.assertEqual(renamed(PAIR, (0, 1)), PAIR)
        self.assertEqual(renamed(LONE, (0,)), LONE)
        self.assertEqual(renamed(OWN, (0,)), OWN)
        # Box 0 is box 1, box 1 is box 2, and box 2 is box 0.
        self.assertEqual(renamed(CYCLE, (1, 2, 0)), (3, ((0, 1, 4, 5, 6), (1, 2, 7, 8, 9), (2, 0, 2, 3, 1))))
        self.assertEqual(renamed(CYCLE, (2, 0, 1)), (3, ((0, 1, 7, 8, 9), (1, 2, 2, 3, 1), (2, 0, 4, 5, 6))))

    def test_pipes_in_ascending_order(self):
        flow = (2, ((1, 0, 1, 1, 5), (0, 1, 2, 1, 0), (0, 1, 1, 9, 0), (0, 1, 1, 9, 0), (0, 0, 1, 1, 1),
                    (0, 1, 1, 2, 7)))
        self.assertEqual(renamed(flow, (0, 1)), (2, ((0, 0, 1, 1, 1), (0, 1, 1, 2, 7), (0, 1, 1, 9, 0), (0, 1, 1, 9, 0),
                                                     (0, 1, 2, 1, 0), (1, 0, 1, 1, 5))))
        self.assertEqual(renamed(flow, (1, 0)), (2, ((0, 1, 1, 1, 5), (1, 0, 1, 2, 7), (1, 0, 1, 9, 0), (1, 0, 1, 9, 0),
                                                     (1, 0, 2, 1, 0), (1, 1, 1, 1, 1))))

    def test_any_flow(self):
        self.assertEqual(renamed(TILTED, (1, 0)), (2, ((0, 1, 1, 1, 0), (1, 0, 1, 2, 0))))
        self.assertEqual(renamed((8, WIDEST[1]), tuple(range(8))), (8, tuple(sorted(WIDEST[1]))))
        self.assertEqual(renamed(HEAVY, (4, 3, 2, 1, 0))[1][0], (4, 1, 1, 1, 0))

    def test_wrong_orders(self):
        for order in (*STRANGE, 0, (), (0,), (0, 1), (0, 1, 2, 3), (0, 1, 1), (0, 1, 3), (-1, 0, 1), [0, 1, 2], "012",
                      (False, True, 2), (0, True, 2), {0: 0, 1: 1, 2: 2}, (0, 1, None), (0, 1, (2,)), ((0, 1, 2),)):
            with self.subTest(order=order):
                self.assert_plain_error(BadOrder, renamed, CYCLE, order)
        self.assert_error(BadFlow, None, renamed, (0, ()), None)
        self.assert_error(BadFlow, 0, renamed, (1, (None,)), (0, 0))

    def test_against_another_way(self):
        for seed in range(100):
            flow = random_flow(seed)
            order = tuple(sorted(range(flow[0]), key=lambda box: (box * 5 + seed) % 11))
            self.assertEqual(repr(renamed(flow, order)), repr(plain_renamed(flow, order)))


class LeastFormTest(ErrorCase):
    def test_least_form(self):
        self.assertEqual(least_form((2, ((1, 0, 2, 3, 1),))), PAIR)
        self.assertEqual(least_form(PAIR), PAIR)
        self.assertEqual(least_form(LONE), LONE)
        self.assertEqual(least_form((3, ())), (3, ()))
        self.assertEqual(least_form(CYCLE), CYCLE)
        self.assertEqual(least_form((3, ((2, 2, 1, 1, 1), (2, 1, 1, 1, 0)))), (3, ((0, 0, 1, 1, 1), (0, 1, 1, 1, 0))))
        self.assertEqual(least_form((3, ((0, 1, 1, 1, 0), (2, 1, 1, 1, 0)))), (3, ((0, 1, 1, 1, 0), (2, 1, 1, 1, 0))))
        self.assertEqual(least_form((3, ((1, 2, 1, 1, 0), (1, 0, 1, 1, 0)))), (3, ((0, 1, 1, 1, 0), (0, 2, 1, 1, 0))))

    def test_flows_that_are_alike_have_one_form(self):
        for seed in range(60):
            flow = random_flow(seed)
            if flow[0] > 4:
                continue
            forms = [renamed(flow, order) for order in itertools.permutations(range(flow[0]))]
            self.assertEqual(repr(least_form(flow)), repr(min(forms)))
            for other in forms:
                self.assertEqual(least_form(other), min(forms))

    def test_6_boxes_and_7(self):
        chain = tuple((k + 1, k, 1, 1, 0) for k in range(5))
        self.assertEqual(least_form((6, chain))[0], 6)
        self.assertEqual(least_form((6, chain))[1][:2], ((0, 1, 1, 1, 0), (1, 2, 1, 1, 0)))
        self.assert_fields(TooMany, {"most": 6}, least_form, (7, ()))
        self.assert_fields(TooMany, {"most": 6}, least_form, WIDEST)
        self.assert_error(BadFlow, None, least_form, (9, ()))
        self.assert_error(BadFlow, 0, least_form, (7, (None,)))


class BesideTest(ErrorCase):
    def test_beside(self):
        self.assertEqual(beside((1, ()), PAIR), (3, ((1, 2, 2, 3, 1),)))
        self.assertEqual(beside(PAIR, (1, ())), (3, ((0, 1, 2, 3, 1),)))
        self.assertEqual(beside(RING, PAIR), (4, RING[1] + ((2, 3, 2, 3, 1),)))
        self.assertEqual(beside(PAIR, RING), (4, PAIR[1] + ((2, 3, 2, 3, 1), (3, 2, 3, 2, 4))))
        self.assertEqual(beside(TILTED, DEAD), (5, TILTED[1] + ((3, 3, 1, 1, 0), (3, 4, 1, 1, 2))))
        self.assertEqual(beside(OWN, OWN), (2, ((0, 0, 2, 2, 3), (1, 1, 2, 2, 3))))
        self.assertEqual(beside(SKEW, SKEW)[1][3:], ((3, 4, 1, 2, 0), (4, 5, 2, 1, 0), (3, 5, 1, 1, 0)))
        self.assertEqual(parts(beside(RING, PAIR)), ((0, 1), (2, 3)))

    def test_8_boxes_and_more(self):
        self.assertEqual(beside((4, ()), (4, ())), (8, ()))
        self.assertEqual(beside((7, ()), LONE), (8, ()))
        self.assertEqual(beside(LONE, (7, ((6, 0, 1, 1, 0),))), (8, ((7, 1, 1, 1, 0),)))
        for first, second in (((4, ()), (5, ())), ((8, ()), LONE), (LONE, (8, ())), ((8, ()), (8, ()))):
            self.assert_fields(TooMany, {"most": 8}, beside, first, second)

    def test_16_pipes_and_more(self):
        eight = ((0, 1, 1, 1, 0),) * 8
        self.assertEqual(len(beside((2, eight), (2, eight))[1]), 16)
        self.assertEqual(beside((1, ()), (2, eight * 2)), (3, ((1, 2, 1, 1, 0),) * 16))
        self.assert_fields(TooMany, {"most": 16}, beside, (2, eight), (2, eight + eight[:1]))
        self.assert_fields(TooMany, {"most": 16}, beside, (2, eight * 2), (2, eight[:1]))
        self.assert_fields(TooMany, {"most": 16}, beside, (2, eight * 2), (6, eight[:1]))
        # Too many boxes come ahead of too many pipes.
        self.assert_fields(TooMany, {"most": 8}, beside, (2, eight * 2), (7, eight))
        self.assert_fields(TooMany, {"most": 8}, beside, WIDEST, WIDEST)

    def test_wrong_flows(self):
        for flow in (*STRANGE, (0, ()), (9, ()), [2, ()]):
            self.assert_error(BadFlow, None, beside, flow, flow)
            self.assert_error(BadFlow, None, beside, PAIR, flow)
            self.assert_error(BadFlow, None, beside, flow, (1, (None,)))
            self.assert_error(BadFlow, None, beside, WIDEST, flow)
        self.assert_error(BadFlow, 0, beside, (1, (None,)), None)
        self.assert_error(BadFlow, 1, beside, (2, (PAIR[1][0], None)), (1, (None,)))
        self.assert_error(BadFlow, 0, beside, PAIR, (1, (None,)))


class WithoutTest(ErrorCase):
    def test_without_pipe(self):
        self.assertEqual(without_pipe(PAIR, 0), (2, ()))
        self.assertEqual(without_pipe(RING, 0), (2, RING[1][1:]))
        self.assertEqual(without_pipe(RING, 1), (2, RING[1][:1]))
        self.assertEqual(without_pipe(CYCLE, 1), (3, (CYCLE[1][0], CYCLE[1][2])))
        self.assertEqual(without_pipe(WIDEST, 15), (8, WIDEST[1][:15]))
        for flow in FLOWS:
            for pipe in range(len(flow[1])):
                rest = list(flow[1])
                del rest[pipe]
                self.assertEqual(without_pipe(flow, pipe), (flow[0], tuple(rest)))

    def test_wrong_pipes(self):
        for pipe in (*STRANGE, -1, 5, 16, 10 ** 30, (0,), (0, 1, 1, 2, 0)):
            self.assert_plain_error(BadPipe, without_pipe, MIXED, pipe)
        self.assert_plain_error(BadPipe, without_pipe, PAIR, 1)
        self.assert_plain_error(BadPipe, without_pipe, LONE, 0)
        self.assert_plain_error(BadPipe, without_pipe, PAIR, PAIR[1][0])
        self.assert_error(BadFlow, None, without_pipe, (0, ()), None)
        self.assert_error(BadFlow, 0, without_pipe, (1, (None,)), 5)


if __name__ == "__main__":
    unittest.main()
