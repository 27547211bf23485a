"""Point 15: looped code in which each box stands just once."""

import itertools
import math
import random
import unittest

from cases import ErrorCase
from rateflows.balance import repetitions
from rateflows.errors import BadFlow, BadOrder, NotBalanced, NotLive, TooMany
from rateflows.live import is_live
from rateflows.loops import appearances, is_schedule, loop_room, unrolled
from rateflows.single import forward_orders, has_single, least_nest, shows_single, single
from samples import (DEAD, DEAD_HEAVY, FULL_ROUND, HEAVY, LONE, MIXED, OWN, PAIR, RING, SKEW, STRANGE, TILTED, WIDEST,
                     random_flow)

LINE = (3, ((0, 1, 1, 2, 0), (1, 2, 1, 2, 0)))
# Round the ring each box fires twice as often as the one before; the last pipe holds just what box 0 eats.
LOOSE = (3, ((0, 1, 2, 1, 0), (1, 2, 2, 1, 0), (2, 0, 1, 4, 4)))
# Boxes 0 and 1 have to take turns, but box 2 need not.
TURNS = (3, ((0, 1, 1, 1, 0), (1, 0, 1, 1, 1), (1, 2, 1, 2, 0)))
DOUBLING = (8, tuple((k, k + 1, 2, 1, 0) for k in range(7)))
# Box 2 fires 1000, 1994 and 1995 times, more than a single pair can say.
WIDE = (3, ((1, 0, 1, 500, 0), (1, 2, 2, 1, 0)))
WIDER = (3, ((1, 0, 1, 2, 0), (1, 2, 997, 1, 0)))
ODD = (3, ((1, 0, 1, 3, 0), (1, 2, 665, 1, 0)))
FOR_LIVE = (has_single, single, shows_single, least_nest)


def arguments(ask, flow):
    """Return the arguments of a function, the ones behind the flow wrong, if there can be wrong ones."""
    return (flow,) if ask in (has_single, single) else (flow, None)


def divisors(number):
    return [by for by in range(1, number + 1) if number % by == 0]


def all_codes(counts, order):
    """Return the list of all looped code in which these boxes stand in this order, each once, that has these counts."""
    if not order:
        return [()]
    found = []
    for many in range(1, len(order) + 1):
        first, rest = order[:many], order[many:]
        common = math.gcd(*[counts[box] for box in first])
        items = []
        for times in divisors(common):
            less = {box: counts[box] // times for box in first}
            if times == 1:
                items += [first] if many == 1 and less[first[0]] == 1 else []
            elif many > 1 or less[first[0]] == 1:
                # A stretch that is but one item more would say the same as another one.
                items += [((times, body),) for body in all_codes(less, first) if len(body) > 1 or many == 1]
        if items:
            found += [item + others for item in items for others in all_codes(counts, rest)]
    return found


def sample_flows(many, boxes, pipes, forward):
    """Return flows that live, with rings or, if all their pipes are to lead forward, without."""
    draw = random.Random(33)
    found = []
    while len(found) < many:
        counts = [draw.choice((1, 2, 2, 3, 4)) for _ in range(draw.randint(2, boxes))]
        rows = []
        for _ in range(draw.randint(1, pipes)):
            ends = draw.randrange(len(counts)), draw.randrange(len(counts))
            one, other = sorted(ends) if forward else ends
            if one != other:
                common = math.gcd(counts[one], counts[other])
                rows.append((one, other, counts[other] // common, counts[one] // common, draw.choice((0, 0, 1, 2, 4))))
        flow = len(counts), tuple(rows)
        if is_live(flow):
            found.append(flow)
    return found


class SingleTest(ErrorCase):
    def assert_single(self, flow, has):
        with self.subTest(flow=flow):
            self.assertIs(has_single(flow), has)
            loop = single(flow)
            self.assertIs(shows_single(flow, loop), True)
            self.assertIs(shows_single(flow, None), not has)
            if not has:
                self.assertIs(loop, None)
                return
            self.assertEqual(sorted(appearances(loop)), list(range(flow[0])))
            self.assertIs(is_schedule(flow, loop), True)

    def test_flows_with_such_code(self):
        for flow in (PAIR, LINE, OWN, LONE, SKEW, LOOSE, (8, ()), FULL_ROUND, (2, ((1, 0, 1, 1, 0),)), DOUBLING,
                     (2, ((0, 1, 1, 1, 0), (1, 0, 1, 1, 1))), (2, ((0, 1, 1, 1, 1), (1, 0, 1, 1, 0)))):
            self.assert_single(flow, True)

    def test_flows_without(self):
        self.assert_single(RING, False)
        self.assert_single((3, RING[1] + ((0, 2, 1, 1, 0),)), False)
        self.assert_single((3, RING[1] + ((2, 2, 1, 1, 1),)), False)

    def test_as_many_tokens_as_a_box_eats_in_a_round(self):
        for start in (4, 5, 6, 7):
            self.assert_single((2, ((0, 1, 2, 3, 0), (1, 0, 3, 2, start))), start >= 6)
            self.assert_single((2, ((1, 0, 3, 2, start), (0, 1, 2, 3, 0))), start >= 6)
        self.assert_single(LOOSE, True)
        self.assert_single((3, LOOSE[1][:2] + ((2, 0, 1, 4, 9),)), True)

    def test_boxes_that_take_turns_within_a_stretch(self):
        self.assert_single(TURNS, True)
        self.assertEqual(unrolled(single(TURNS)), (0, 1, 0, 1, 2))
        # Box 0 may eat what it needs for all its turns ahead of box 2.
        self.assert_single((3, TURNS[1] + ((2, 0, 2, 1, 2),)), True)

    def test_parts_of_their_own(self):
        self.assert_single((4, ((0, 2, 1, 2, 0), (1, 3, 3, 1, 0))), True)
        self.assert_single((4, ((0, 2, 2, 3, 1), (2, 0, 3, 2, 4), (1, 3, 3, 1, 0))), False)
        self.assert_single((3, ((0, 2, 1, 1, 1), (2, 0, 1, 1, 1))), True)

    def test_a_pipe_from_a_box_to_itself(self):
        self.assert_single((2, ((0, 0, 3, 3, 3), (0, 1, 2, 3, 0), (1, 1, 1, 1, 1))), True)

    def test_stretches_within_one_another(self):
        self.assertEqual(unrolled(single(DOUBLING)).count(7), 128)
        self.assert_single((8, tuple((k + 1, k, 1, 2, 0) for k in range(7))), True)

    def test_counts_above_999(self):
        for flow, counts in ((WIDE, (1, 500, 1000)), (WIDER, (1, 2, 1994)), (ODD, (1, 3, 1995))):
            self.assertEqual(repetitions(flow), counts)
            self.assert_single(flow, True)
            self.assertIs(shows_single(flow, tuple((many, (box,)) for box, many in enumerate(counts))), False)
        self.assertIs(shows_single(WIDE, ((500, (1,)), 0, (2, ((500, (2,)),)))), True)
        self.assertIs(shows_single(WIDE, ((500, (1,)), 0, (1000, (2,)))), False)

    def test_shows_single(self):
        for loop in (((4, (0,)), (2, (1,)), 2), ((2, ((2, (0,)), 1)), 2), ((2, ((2, (0,)),)), (2, (1,)), 2)):
            self.assertIs(shows_single(LINE, loop), True)
        for loop in (None, (), (0, 1, 2), ((4, (0,)), (2, (1,))), ((4, (0,)), 1, 1, 2), ((2, (0, 0, 1)), 2),
                     ((4, (0,)), (2, (1,)), 2, 3), ((2, (1,)), (4, (0,)), 2), ((4, (0,)), 2, (2, (1,))),
                     ((2, ((4, (0,)), (2, (1,)), 2)),), ((4, (0,)), (2, (1,)), (2, (2,))), ((2, (0,)), (2, (1,)), 2),
                     [(4, (0,)), (2, (1,)), 2], ((4, (False,)), (2, (True,)), 2), ((4, [0]), (2, [1]), 2),
                     ((4, (0,)), (2, (1,)), 8), "((4, (0,)), (2, (1,)), 2)"):
            with self.subTest(loop=loop):
                self.assertIs(shows_single(LINE, loop), False)
        self.assertIs(shows_single(RING, None), True)
        self.assertIs(shows_single(RING, (0, (2, (0, 1)))), False)
        self.assertIs(shows_single(RING, ((3, (0,)), (2, (1,)))), False)
        self.assertIs(shows_single(LONE, (0,)), True)
        self.assertIs(shows_single(LONE, (False,)), False)
        self.assertIs(shows_single(LONE, ((2, (0,)),)), False)

    def test_odd_values_for_shows_single(self):
        for value in (*STRANGE, (0, 0), ((2, ()),), ((999, (0, 1, 2)),), (0,) * 3000, 0, 7):
            self.assertIs(shows_single(PAIR, value), False)
            self.assertIs(shows_single(RING, value), value is None)

    def test_against_all_looped_code(self):
        told = {True: 0, False: 0}
        for flow in sample_flows(600, 4, 8, False):
            counts = repetitions(flow)
            codes = [code for order in itertools.permutations(range(flow[0])) for code in all_codes(counts, order)]
            able = [code for code in codes if is_schedule(flow, code)]
            self.assert_single(flow, bool(able))
            for code in codes[::max(1, len(codes) // 20)]:
                self.assertIs(shows_single(flow, code), code in able)
            told[bool(able)] += 1
        self.assertGreater(min(told.values()), 30)


class OrdersTest(ErrorCase):
    def test_orders(self):
        self.assertEqual(forward_orders(LINE), [(0, 1, 2)])
        self.assertEqual(forward_orders((3, ((2, 1, 1, 1, 0), (1, 0, 1, 1, 0)))), [(2, 1, 0)])
        self.assertEqual(forward_orders((3, ((0, 2, 1, 1, 0),))), [(0, 1, 2), (0, 2, 1), (1, 0, 2)])
        self.assertEqual(forward_orders((3, ((2, 0, 1, 1, 9),))), [(1, 2, 0), (2, 0, 1), (2, 1, 0)])
        self.assertEqual(forward_orders(LONE), [(0,)])
        self.assertEqual(forward_orders((2, ())), [(0, 1), (1, 0)])

    def test_flows_without_an_order(self):
        for flow in (RING, OWN, MIXED, WIDEST, (3, ((0, 1, 1, 1, 9), (1, 2, 1, 1, 9), (2, 0, 1, 1, 9))),
                     (3, ((0, 1, 1, 1, 0), (2, 2, 1, 1, 5)))):
            self.assertEqual(forward_orders(flow), [])

    def test_any_flow(self):
        self.assertEqual(forward_orders((2, ((0, 1, 1, 1, 0), (0, 1, 1, 2, 0)))), [(0, 1)])
        self.assertEqual(forward_orders(HEAVY)[0], (0, 1, 2, 3, 4))
        self.assertEqual(len(forward_orders(HEAVY)), 30)
        self.assertEqual(forward_orders(TILTED), [])
        self.assert_error(BadFlow, None, forward_orders, (9, ()))
        self.assert_error(BadFlow, 0, forward_orders, (1, (0,)))

    def test_8_boxes(self):
        orders = forward_orders((8, ()))
        self.assertEqual(len(orders), 40320)
        self.assertEqual([orders[0], orders[1]], [(0, 1, 2, 3, 4, 5, 6, 7), (0, 1, 2, 3, 4, 5, 7, 6)])
        chain = tuple((k + 1, k, 1, 1, 0) for k in range(7))
        self.assertEqual(forward_orders((8, chain)), [(7, 6, 5, 4, 3, 2, 1, 0)])

    def test_against_another_way(self):
        several = 0
        for seed in range(300):
            boxes, pipes = random_flow(seed)
            flow = (min(boxes, 5), tuple(p for p in pipes[:6] if max(p[:2]) < 5))
            orders = sorted(plain_orders(flow[0], {(one, other) for one, other, *_ in flow[1]}))
            self.assertEqual(repr(forward_orders(flow)), repr(orders))
            several += len(orders) > 1
        self.assertGreater(several, 20)

    def test_the_list_is_new(self):
        first = forward_orders(LINE)
        first.clear()
        self.assertEqual(forward_orders(LINE), [(0, 1, 2)])


def plain_orders(boxes, pairs, front=()):
    """Return the list of all orders that begin with some boxes, one more at a time."""
    if len(front) == boxes:
        return [front]
    rest = [box for box in range(boxes) if box not in front]
    able = [box for box in rest if all(one in front for one, other in pairs if other == box)]
    return [order for box in able for order in plain_orders(boxes, pairs, front + (box,))]


class NestTest(ErrorCase):
    def assert_nest(self, flow, order, total):
        with self.subTest(flow=flow, order=order):
            told = least_nest(flow, order)
            self.assertEqual(told.__class__, tuple)
            self.assertEqual(repr(told[0]), repr(total))
            self.assertEqual(appearances(told[1]), order)
            self.assertEqual(sum(loop_room(flow, told[1])), total)

    def test_sums(self):
        self.assertEqual(least_nest(LINE, (0, 1, 2)), (4, ((2, ((2, (0,)), 1)), 2)))
        self.assert_nest(PAIR, (0, 1), 7)
        self.assert_nest((2, ((1, 0, 2, 3, 1),)), (1, 0), 7)
        self.assert_nest(LONE, (0,), 0)
        self.assert_nest((3, ()), (2, 0, 1), 0)
        self.assert_nest(SKEW, (0, 1, 2), 6)
        # Boxes 0 and 1 as the inner stretch need 1 + 6, the boxes 1 and 2 6 + 3.
        self.assert_nest((3, ((0, 1, 3, 1, 0), (1, 2, 1, 1, 0))), (0, 1, 2), 4)
        self.assert_nest((3, ((0, 1, 1, 2, 0), (1, 2, 2, 1, 0))), (0, 1, 2), 4)
        self.assert_nest((3, ((0, 1, 2, 3, 0), (1, 2, 4, 2, 0))), (0, 1, 2), 10)

    def test_what_pipes_hold_counts(self):
        self.assert_nest((2, ((0, 1, 2, 3, 10),)), (0, 1), 16)
        self.assert_nest((2, ((0, 1, 1, 1, 99999),)), (0, 1), 100000)
        self.assert_nest((3, ((0, 1, 1, 2, 5), (1, 2, 1, 2, 0), (0, 2, 1, 4, 3))), (0, 1, 2), 2 + 5 + 2 + 3 + 4)

    def test_orders_with_parts_between_one_another(self):
        flow = (4, ((0, 2, 1, 4, 0), (1, 3, 1, 4, 0)))
        self.assert_nest(flow, (0, 1, 2, 3), 8)
        self.assert_nest(flow, (0, 2, 1, 3), 8)
        self.assert_nest((4, ((0, 2, 1, 2, 0), (2, 3, 1, 2, 0))), (1, 0, 2, 3), 4)
        self.assert_nest((4, ((0, 2, 1, 2, 0), (2, 3, 1, 2, 0))), (0, 1, 2, 3), 6)

    def test_counts_above_999(self):
        # Box 0 stands between, so that nothing of the other two is said together.
        self.assert_nest(WIDE, (1, 0, 2), 500 + 1000)
        self.assert_nest(WIDER, (1, 0, 2), 2 + 1994)
        self.assert_nest(ODD, (1, 0, 2), 3 + 1995)
        # Here the boxes 1 and 2 are said 500 times, and twice, together.
        self.assert_nest(WIDE, (1, 2, 0), 500 + 2)
        self.assert_nest(WIDER, (1, 2, 0), 2 + 997)
        self.assert_nest(FULL_ROUND, (0, 1, 2, 3), 1999)

    def test_wrong_orders(self):
        for order in (*STRANGE, 0, (), (0, 1), (0, 1, 2, 3), (0, 1, 1), (0, 2, 1), (2, 1, 0), (1, 0, 2), [0, 1, 2],
                      (0, 1, 3), (-1, 0, 1), (False, True, 2), (0, True, 2), "012", {0: 0, 1: 1, 2: 2}, ((0, 1, 2),)):
            with self.subTest(order=order):
                self.assert_plain_error(BadOrder, least_nest, LINE, order)
        for order in ((0, 1), (1, 0), None):
            self.assert_plain_error(BadOrder, least_nest, RING, order)
        self.assert_plain_error(BadOrder, least_nest, OWN, (0,))
        self.assert_plain_error(BadOrder, least_nest, LONE, (False,))
        self.assert_plain_error(BadOrder, least_nest, (2, ((0, 1, 1, 1, 5),)), (1, 0))

    def test_errors_of_the_flow(self):
        for ask in FOR_LIVE:
            with self.subTest(ask=ask):
                self.assert_error(BadFlow, None, ask, *arguments(ask, (0, ())))
                self.assert_error(BadFlow, 0, ask, *arguments(ask, (1, (None,))))
                self.assert_plain_error(NotBalanced, ask, *arguments(ask, TILTED))
                self.assert_plain_error(NotBalanced, ask, *arguments(ask, (5, HEAVY[1] + ((4, 4, 1, 2, 0),))))
                self.assert_fields(TooMany, {"most": 2000}, ask, *arguments(ask, HEAVY))
                self.assert_fields(TooMany, {"most": 2000}, ask, *arguments(ask, DEAD_HEAVY))
                self.assert_plain_error(NotLive, ask, *arguments(ask, DEAD))

    def test_against_all_looped_code(self):
        tried = 0
        for flow in sample_flows(400, 4, 6, True):
            counts = repetitions(flow)
            for order in forward_orders(flow)[:3]:
                totals = [sum(loop_room(flow, code)) for code in all_codes(counts, order)]
                self.assert_nest(flow, order, min(totals))
                tried += min(totals) < max(totals)
        self.assertGreater(tried, 50)


if __name__ == "__main__":
    unittest.main()
