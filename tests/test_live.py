"""Point 8: rounds, what lives, and what can be fired for ever."""

import unittest

from cases import ErrorCase
from rateflows.balance import is_balanced, repetitions
from rateflows.counts import can_do
from rateflows.errors import BadFlow, NotBalanced, NotLive, TooMany
from rateflows.firing import run
from rateflows.live import endless, is_live, most_ever, round_word
from samples import DEAD, DEAD_HEAVY, FULL_ROUND, HEAVY, LONE, MIXED, OWN, PAIR, RING, SKEW, TILTED, balanced_flow
from test_counts import plain_words

OF_ROUNDS = (is_live, round_word, endless, most_ever)


def plain_most_ever(flow):
    """Return how often each box of a small flow can be fired at most, None for those that come to very many."""
    boxes, pipes = flow
    limit = 360
    held = [p[4] for p in pipes]
    done = [0] * boxes
    moved = True
    while moved:
        moved = False
        for box in range(boxes):
            while done[box] < limit and all(n >= p[3] for n, p in zip(held, pipes) if p[1] == box):
                held = [n - p[3] * (p[1] == box) + p[2] * (p[0] == box) for n, p in zip(held, pipes)]
                done[box] += 1
                moved = True
    # A box may be held up by another one that has come to the limit; in a round no box is fired three times as often.
    return tuple(None if many >= limit // 3 else many for many in done)


class RoundTest(ErrorCase):
    def test_flows_that_live(self):
        for flow in (RING, PAIR, OWN, LONE, SKEW, (8, ()), FULL_ROUND):
            with self.subTest(flow=flow):
                self.assertIs(is_live(flow), True)
                self.assertEqual(endless(flow), tuple(range(flow[0])))
                self.assertEqual(most_ever(flow), (None,) * flow[0])

    def test_round_word(self):
        self.assertEqual(round_word(RING), (0, 0, 1, 0, 1))
        self.assertEqual(round_word(PAIR), (0, 0, 0, 1, 1))
        self.assertEqual(round_word(SKEW), (0, 0, 1, 2, 2))
        self.assertEqual(round_word(LONE), (0,))
        self.assertEqual(round_word((3, ())), (0, 1, 2))
        self.assertEqual(round_word((2, ((1, 0, 1, 1, 0),))), (1, 0))
        self.assertEqual(round_word((2, ((1, 0, 2, 3, 1),))), (1, 0, 1, 1, 0))
        self.assertEqual(round_word((2, ((1, 0, 2, 3, 6),))), (0, 0, 1, 1, 1))

    def test_flows_that_are_stuck(self):
        stuck = (3, ((0, 1, 1, 1, 0), (1, 2, 1, 1, 0), (2, 0, 1, 1, 0)))
        slow = (2, ((0, 1, 2, 3, 1), (1, 0, 3, 2, 2)))
        for flow, most in ((DEAD, (None, 0, 2)), (stuck, (0, 0, 0)), (slow, (2, 1)), ((1, ((0, 0, 5, 5, 4),)), (0,))):
            with self.subTest(flow=flow):
                self.assertIs(is_live(flow), False)
                self.assert_plain_error(NotLive, round_word, flow)
                self.assertEqual(most_ever(flow), most)
                self.assertEqual(endless(flow), tuple(k for k, many in enumerate(most) if many is None))

    def test_one_token_more_and_it_lives(self):
        self.assertIs(is_live((2, ((0, 1, 2, 3, 1), (1, 0, 3, 2, 3)))), True)
        self.assertIs(is_live((2, ((0, 1, 2, 3, 2), (1, 0, 3, 2, 2)))), True)
        self.assertIs(is_live((1, ((0, 0, 5, 5, 5),))), True)
        self.assertIs(is_live((3, ((0, 1, 1, 1, 0), (1, 2, 1, 1, 0), (2, 0, 1, 1, 1)))), True)

    def test_flows_that_are_not_balanced(self):
        for ask in OF_ROUNDS:
            for flow in (TILTED, MIXED, (3, TILTED[1]), (2, ((0, 1, 1, 2, 99), (1, 0, 1, 1, 99)))):
                with self.subTest(ask=ask, flow=flow):
                    self.assert_plain_error(NotBalanced, ask, flow)

    def test_rounds_of_2000_firings_and_of_more(self):
        self.assertEqual(sum(repetitions(FULL_ROUND)), 2000)
        self.assertEqual(len(round_word(FULL_ROUND)), 2000)
        self.assertEqual(sum(repetitions(HEAVY)), 2001)
        for ask in OF_ROUNDS:
            self.assert_fields(TooMany, {"most": 2000}, ask, HEAVY)
            self.assert_fields(TooMany, {"most": 2000}, ask, (3, ((0, 1, 999, 1, 0), (1, 2, 999, 1, 0))))

    def test_the_order_of_errors(self):
        for ask in OF_ROUNDS:
            self.assert_error(BadFlow, None, ask, None)
            self.assert_error(BadFlow, 0, ask, (2, ((0, 2, 1, 1, 0),)))
            self.assert_plain_error(NotBalanced, ask, (HEAVY[0], HEAVY[1] + ((4, 4, 1, 2, 0),)))
            self.assert_fields(TooMany, {"most": 2000}, ask, DEAD_HEAVY)
        self.assert_plain_error(NotLive, round_word, DEAD)

    def test_round_word_against_another_way(self):
        told = {True: 0, False: 0}
        for seed in range(300):
            flow = balanced_flow(seed)
            counts = repetitions(flow)
            words = plain_words(flow, counts) if sum(counts) < 10 else None
            with self.subTest(flow=flow):
                if is_live(flow):
                    word = round_word(flow)
                    self.assertEqual(tuple(map(word.count, range(flow[0]))), counts)
                    self.assertEqual(run(flow, word), flow)
                    # Then a second round can be done too.
                    self.assertTrue(can_do(flow, tuple(2 * many for many in counts)))
                    if words is not None:
                        self.assertEqual(word, min(words))
                else:
                    self.assert_plain_error(NotLive, round_word, flow)
                    self.assertIn(words, ([], None))
            told[is_live(flow)] += 1
        self.assertGreater(min(told.values()), 50)


class EverTest(ErrorCase):
    def test_boxes_for_ever_beside_others(self):
        self.assertEqual(endless(DEAD), (0,))
        self.assertEqual(most_ever((3, ((1, 1, 1, 1, 0), (1, 2, 1, 1, 2), (0, 2, 1, 1, 0)))), (None, 0, 2))
        self.assertEqual(most_ever((3, ((1, 1, 1, 1, 0), (0, 1, 1, 1, 0), (1, 2, 1, 3, 8)))), (None, 0, 2))
        # A box ahead of one that is stuck goes on for ever, whatever becomes of its tokens.
        self.assertEqual(most_ever((3, ((0, 1, 1, 1, 0), (1, 1, 1, 1, 0), (2, 0, 1, 1, 0)))), (None, 0, None))

    def test_boxes_that_wait_for_what_has_stopped(self):
        flow = (4, ((0, 0, 1, 1, 0), (0, 1, 1, 1, 7), (1, 2, 2, 1, 3), (2, 3, 1, 2, 1)))
        self.assertEqual(most_ever(flow), (0, 7, 17, 9))

    def test_rings_that_live_on_what_has_stopped(self):
        ring = ((1, 2, 1, 1, 0), (2, 1, 1, 1, 1))
        self.assertEqual(most_ever((3, ((0, 0, 1, 1, 0), (0, 1, 1, 1, 50)) + ring)), (0, 50, 50))
        self.assertEqual(most_ever((3, ((0, 0, 1, 1, 0), (0, 2, 1, 1, 50)) + ring)), (0, 51, 50))
        self.assertEqual(most_ever((3, ((0, 0, 1, 1, 0), (0, 2, 3, 1, 50), (1, 2, 3, 3, 8), (2, 1, 3, 3, 8)))),
                         (0, 52, 50))

    def test_numbers_that_no_word_comes_to(self):
        self.assertEqual(most_ever((3, ((0, 0, 1, 1, 0), (0, 1, 1, 1, 99999), (1, 2, 999, 1, 99999)))),
                         (0, 99999, 99999 * 1000))
        slow_ring = ((1, 2, 1, 1, 0), (2, 1, 1, 1, 1))
        flow = (4, ((0, 0, 1, 1, 0), (0, 3, 1, 1, 99999), (3, 1, 900, 1, 99999)) + slow_ring)
        self.assertEqual(most_ever(flow), (0, 90099099, 90099099, 99999))

    def test_against_another_way(self):
        finite = 0
        for seed in range(600):
            flow = balanced_flow(seed, boxes=5, pipes=8, tokens=4) if seed % 2 else balanced_flow(seed, 6, 8, 3, 3)
            self.assertTrue(is_balanced(flow))
            with self.subTest(flow=flow):
                most = plain_most_ever(flow)
                self.assertEqual(most_ever(flow), most)
                self.assertEqual(endless(flow), tuple(box for box in range(flow[0]) if most[box] is None))
                self.assertIs(is_live(flow), set(most) == {None})
            finite += any(most)
        self.assertGreater(finite, 50)


if __name__ == "__main__":
    unittest.main()
