"""Point 5: balanced flows, and rings of steps that show that others are not."""

import random
import unittest
from fractions import Fraction
from math import gcd

from cases import ErrorCase
from rateflows.balance import is_balanced, repetitions, shows_tilt, tilt
from rateflows.errors import NotBalanced
from rateflows.flows import parts
from samples import DEAD, LONE, MIXED, OWN, PAIR, RING, SKEW, STRANGE, TILTED, balanced_flow, random_flow

SELF_TILTED = (1, ((0, 0, 2, 1, 5),))


def plain_steps(pipes, value):
    """Return the list of the from-box, to-box and rate of each step."""
    rows = []
    for place, forward in value:
        one, other, give, eat, _ = pipes[place]
        rows.append((one, other, Fraction(give, eat)) if forward else (other, one, Fraction(eat, give)))
    return rows


def plainly_tilted(flow, value):
    """Tell whether steps, known to be pairs of a pipe and True or False, are a ring that tilts a flow."""
    rows = plain_steps(flow[1], value)
    if not rows or any(rows[k - 1][1] != rows[k][0] for k in range(len(rows))):
        return False
    whole = Fraction(1)
    for row in rows:
        whole *= row[2]
    return whole != 1


class RepetitionsTest(ErrorCase):
    def test_balanced_flows(self):
        self.assertEqual(repetitions(RING), (3, 2))
        self.assertEqual(repetitions(PAIR), (3, 2))
        self.assertEqual(repetitions(LONE), (1,))
        self.assertEqual(repetitions(OWN), (1,))
        self.assertEqual(repetitions((8, ())), (1,) * 8)
        self.assertEqual(repetitions(SKEW), (2, 1, 2))
        self.assertEqual(repetitions(DEAD), (1, 1, 1))
        self.assertEqual(repetitions((2, ((1, 0, 2, 3, 1),))), (2, 3))
        self.assertEqual(repetitions((2, ((0, 1, 999, 998, 0),))), (998, 999))
        self.assertEqual(repetitions((2, ((0, 1, 500, 250, 0),))), (1, 2))

    def test_each_part_is_least_alone(self):
        flow = (5, ((0, 3, 4, 6, 0), (4, 1, 1, 5, 0), (2, 2, 7, 7, 0)))
        self.assertEqual(repetitions(flow), (3, 1, 1, 2, 5))
        self.assertEqual(repetitions((4, ((0, 1, 1, 10, 0), (3, 2, 10, 1, 0)))), (10, 1, 10, 1))

    def test_shares_that_meet_in_a_third_box(self):
        self.assertEqual(repetitions((3, ((0, 2, 1, 6, 0), (1, 2, 1, 4, 0)))), (6, 4, 1))
        self.assertEqual(repetitions((3, ((0, 1, 2, 3, 0), (1, 2, 2, 3, 0)))), (9, 6, 4))
        self.assertEqual(repetitions((3, ((1, 0, 2, 3, 0), (2, 1, 2, 3, 0)))), (4, 6, 9))

    def test_great_counts(self):
        chain = tuple((box, box + 1, 999, 998, 0) for box in range(7))
        self.assertEqual(repetitions((8, chain)), tuple(998 ** (7 - box) * 999 ** box for box in range(8)))

    def test_flows_that_are_not_balanced(self):
        for flow in (TILTED, SELF_TILTED, MIXED, (2, PAIR[1] + ((0, 1, 1, 1, 0),)), (3, TILTED[1])):
            with self.subTest(flow=flow):
                self.assert_plain_error(NotBalanced, repetitions, flow)
                self.assertIs(is_balanced(flow), False)

    def test_tokens_do_not_matter(self):
        for tokens in (0, 1, 99999):
            self.assertEqual(repetitions((2, ((0, 1, 2, 3, tokens),))), (3, 2))
            self.assertIs(is_balanced((2, ((0, 1, 1, 2, tokens), (1, 0, 1, 1, tokens)))), False)

    def test_they_leave_all_pipes_as_they_were_and_none_less_do(self):
        for flow in (*map(random_flow, range(200)), *map(balanced_flow, range(300))):
            if not is_balanced(flow):
                self.assertTrue(plainly_tilted(flow, tilt(flow)))
                continue
            counts = repetitions(flow)
            with self.subTest(flow=flow):
                self.assertEqual([type(many) for many in counts], [int] * flow[0])
                self.assertGreater(min(counts), 0)
                for one, other, give, eat, _ in flow[1]:
                    self.assertEqual(give * counts[one], eat * counts[other])
                # All solutions for a part are multiples of one another.
                for part in parts(flow):
                    self.assertEqual(gcd(*[counts[box] for box in part]), 1)

    def test_made_to_be_balanced(self):
        for seed in range(300):
            self.assertIs(is_balanced(balanced_flow(seed)), True)
            self.assertIsNone(tilt(balanced_flow(seed)))


class TiltTest(ErrorCase):
    def test_rings(self):
        for flow in (TILTED, SELF_TILTED, MIXED, (8, ((6, 7, 1, 2, 0), (7, 6, 1, 1, 0)))):
            ring = tilt(flow)
            with self.subTest(flow=flow, ring=ring):
                self.assertTrue(plainly_tilted(flow, ring))
                self.assertEqual({type(ring), *map(type, ring)}, {tuple})
                self.assertEqual({(type(place), type(forward)) for place, forward in ring}, {(int, bool)})
                self.assertIs(shows_tilt(flow, ring), True)
        for flow in (RING, PAIR, OWN, LONE, SKEW, DEAD):
            self.assertIsNone(tilt(flow))

    def test_a_long_ring(self):
        pipes = tuple((k, (k + 1) % 8, 1 + k % 2, 1 + k % 2, 0) for k in range(7)) + ((0, 7, 3, 2, 0),)
        ring = tilt((8, pipes))
        self.assertTrue(plainly_tilted((8, pipes), ring))
        self.assertEqual(sorted(place for place, _ in ring), list(range(8)))

    def test_rings_forward_and_back(self):
        flow = (3, ((0, 1, 1, 2, 0), (1, 2, 3, 1, 0), (0, 2, 1, 1, 0)))
        self.assertIs(shows_tilt(flow, ((0, True), (1, True), (2, False))), True)
        self.assertIs(shows_tilt(flow, ((2, True), (1, False), (0, False))), True)
        self.assertIs(shows_tilt(flow, ((1, True), (2, False), (0, True))), True)
        self.assertIs(shows_tilt(flow, ((0, True), (1, True), (2, True))), False)
        self.assertIs(shows_tilt(flow, ((0, True), (1, True))), False)
        self.assertIs(shows_tilt(flow, ((1, True), (0, True), (2, False))), False)

    def test_rings_of_the_rate_1(self):
        self.assertIs(shows_tilt(TILTED, ((0, True), (0, False))), False)
        self.assertIs(shows_tilt(TILTED, ((1, False), (1, True))), False)
        there_and_back = ((0, True), (1, True), (1, False), (0, False))
        self.assertIs(shows_tilt(TILTED, there_and_back), False)
        self.assertIs(shows_tilt(TILTED, ((0, True), (1, True)) + there_and_back), True)

    def test_rings_that_pass_boxes_again(self):
        self.assertIs(shows_tilt(TILTED, ((0, True), (1, True)) * 5), True)
        self.assertIs(shows_tilt(TILTED, ((0, True), (1, True)) * 2000), True)
        self.assertIs(shows_tilt(SELF_TILTED, ((0, True),)), True)
        self.assertIs(shows_tilt(SELF_TILTED, ((0, False),)), True)
        self.assertIs(shows_tilt(SELF_TILTED, ((0, False), (0, True))), False)
        self.assertIs(shows_tilt(SELF_TILTED, ((0, False), (0, True), (0, False))), True)

    def test_rings_in_a_balanced_part_of_a_flow_that_is_not_balanced(self):
        flow = (4, TILTED[1] + ((2, 3, 1, 1, 0), (3, 2, 1, 1, 0)))
        self.assertIs(shows_tilt(flow, ((2, True), (3, True))), False)
        self.assertIs(shows_tilt(flow, ((2, True), (1, True))), False)
        self.assertIs(shows_tilt(flow, ((0, True), (1, True))), True)

    def test_none_and_balanced_flows(self):
        for flow in (RING, PAIR, OWN, LONE):
            self.assertIs(shows_tilt(flow, None), True)
            for value in (*STRANGE[1:], (), ((0, True),), ((0, True), (0, False)), ((0, True), (1, True)), 0):
                with self.subTest(flow=flow, value=value):
                    self.assertIs(shows_tilt(flow, value), False)
        for flow in (TILTED, SELF_TILTED, MIXED):
            self.assertIs(shows_tilt(flow, None), False)

    def test_odd_values(self):
        good = ((0, True), (1, True))
        deep = ()
        for _ in range(20000):
            deep = (deep, True)
        odd = [(), [], list(good), [*map(list, good)], tuple(map(list, good)), {0: True}, "01", 0, -1, True,
               ((0, 1), (1, 1)), ((False, True), (True, True)), ((0, True), (True, True)), ((0, "True"), (1, True)),
               ((0, None), (1, True)), ((0,), (1,)), ((0, True, 0), (1, True, 0)), ((0, True), 1),
               ((0, True), (2, True)),
               ((-2, True), (-1, True)), ((0, True), (-1, True)), ((None, True),), (((0, True), (1, True)),), deep,
               ((10 ** 40, True),), (([], True),), (({}, False),)]
        for value in (*STRANGE, *odd):
            for flow in (TILTED, SELF_TILTED):
                self.assertIs(shows_tilt(flow, value), False)

    def test_values_against_another_way(self):
        draw = random.Random(5)
        told = {True: 0, False: 0}
        for seed in range(400):
            flow = random_flow(seed) if seed % 2 else balanced_flow(seed)
            if not flow[1]:
                continue
            value = tuple((draw.randrange(len(flow[1])), draw.random() < 0.5) for _ in range(draw.randint(1, 3)))
            answer = shows_tilt(flow, value)
            told[answer] += 1
            with self.subTest(flow=flow, value=value):
                self.assertIs(answer, plainly_tilted(flow, value))
        self.assertGreater(min(told.values()), 20)


if __name__ == "__main__":
    unittest.main()
