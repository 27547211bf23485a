"""Point 18: the firings of a round, and what they need."""

import unittest

from cases import ErrorCase
from rateflows.balance import repetitions
from rateflows.errors import BadFlow, NotBalanced, NotLive, TooMany
from rateflows.live import is_live
from rateflows.unroll import firings, needs
from samples import DEAD, DEAD_HEAVY, FULL_ROUND, HEAVY, LONE, OWN, PAIR, RING, SKEW, TILTED, balanced_flow

# Rounds of 120 firings, and of 121.
FULL = (2, ((0, 1, 119, 1, 0),))
OVER = (2, ((0, 1, 120, 1, 0),))


def plain_needs(flow):
    """Return what needs should return, by laying all tokens of some rounds behind one another."""
    counts = repetitions(flow)
    found = set()
    for one, other, give, eat, start in flow[1]:
        ago = start // (give * counts[one]) + 2
        # Who laid each token, of the rounds before and of this one.
        laid = [(number, back) for back in range(ago, -1, -1) for number in range(counts[one]) for _ in range(give)]
        first = ago * counts[one] * give - start
        for number in range(counts[other]):
            eaten = laid[first + number * eat:first + (number + 1) * eat]
            found.add(((one, eaten[-1][0]), (other, number), eaten[-1][1]))
    return tuple(sorted(found))


class UnrollTest(ErrorCase):
    def test_firings(self):
        self.assertEqual(firings(PAIR), ((0, 0), (0, 1), (0, 2), (1, 0), (1, 1)))
        self.assertEqual(firings(LONE), ((0, 0),))
        self.assertEqual(firings((3, ())), ((0, 0), (1, 0), (2, 0)))
        self.assertEqual(firings(FULL), ((0, 0),) + tuple((1, k) for k in range(119)))
        for seed in range(100):
            flow = balanced_flow(seed)
            if is_live(flow):
                told = [(box, k) for box, many in enumerate(repetitions(flow)) for k in range(many)]
                self.assertEqual(repr(firings(flow)), repr(tuple(told)))

    def test_needs_within_a_round(self):
        self.assertEqual(needs(PAIR), (((0, 0), (1, 0), 0), ((0, 2), (1, 1), 0)))
        self.assertEqual(needs((2, ((0, 1, 2, 3, 0),))), (((0, 1), (1, 0), 0), ((0, 2), (1, 1), 0)))
        self.assertEqual(needs((2, ((0, 1, 1, 3, 0),))), (((0, 2), (1, 0), 0),))
        self.assertEqual(needs((2, ((0, 1, 3, 1, 0),))), tuple(((0, 0), (1, k), 0) for k in range(3)))

    def test_needs_of_rounds_ago(self):
        self.assertEqual(needs((2, ((0, 1, 1, 1, 0), (1, 0, 1, 1, 1)))),
                         (((0, 0), (1, 0), 0), ((1, 0), (0, 0), 1)))
        self.assertEqual([needs((2, ((0, 1, 1, 1, start),)))[0][2] for start in range(5)], [0, 1, 2, 3, 4])
        # Of the six tokens of a round, which two by two are laid by the firings 0, 1 and 2.
        last = [step for start in range(9) for step in needs((2, ((0, 1, 2, 3, start),))) if step[1] == (1, 1)]
        self.assertEqual([(first[1], ago) for first, _, ago in last],
                         [(2, 0), (2, 0), (1, 0), (1, 0), (0, 0), (0, 0), (2, 1), (2, 1), (1, 1)])
        self.assertEqual(needs((2, ((0, 1, 1, 1, 99999),))), (((0, 0), (1, 0), 99999),))
        self.assertEqual(needs((2, ((0, 1, 2, 3, 99999),)))[0][2], 16666)

    def test_pipes_from_a_box_to_itself(self):
        self.assertEqual(needs((1, ((0, 0, 1, 1, 1),))), (((0, 0), (0, 0), 1),))
        self.assertEqual(needs((1, ((0, 0, 1, 1, 3),))), (((0, 0), (0, 0), 3),))
        # Two tokens are eaten, and the third one is left: the last one eaten is of the firing before.
        self.assertEqual(needs(OWN), (((0, 0), (0, 0), 1),))
        self.assertEqual(needs((1, ((0, 0, 2, 2, 4),))), (((0, 0), (0, 0), 2),))
        flow = (2, ((0, 0, 1, 1, 2), (0, 1, 1, 3, 9)))
        self.assertEqual(needs(flow), (((0, 0), (0, 2), 0), ((0, 1), (0, 0), 1), ((0, 2), (0, 1), 1),
                                       ((0, 2), (1, 0), 3)))

    def test_several_pipes_between_two_boxes(self):
        self.assertEqual(needs((2, ((0, 1, 1, 1, 0), (0, 1, 2, 2, 0), (0, 1, 1, 1, 3)))),
                         (((0, 0), (1, 0), 0), ((0, 0), (1, 0), 3)))
        self.assertEqual(needs((2, ((0, 1, 1, 1, 7), (0, 1, 5, 5, 39)))), (((0, 0), (1, 0), 7),))
        # As for two of these pipes the firings that need are not the same.
        self.assertEqual(len(needs((2, ((0, 1, 1, 2, 0), (0, 1, 2, 4, 2))))), 2)

    def test_boxes_to_which_no_pipe_leads(self):
        self.assertEqual(needs(LONE), ())
        self.assertEqual(needs((8, ())), ())
        self.assertEqual({second[0] for _, second, _ in needs(SKEW)}, {1, 2})

    def test_120_firings_and_more(self):
        self.assertEqual(len(needs(FULL)), 119)
        for ask in (firings, needs):
            ask(FULL)
            self.assert_fields(TooMany, {"most": 120}, ask, OVER)
            self.assert_fields(TooMany, {"most": 120}, ask, FULL_ROUND)
            ask((3, ((0, 1, 118, 1, 0),)))
            self.assert_fields(TooMany, {"most": 120}, ask, (3, FULL[1]))

    def test_errors_of_the_flow(self):
        for ask in (firings, needs):
            with self.subTest(ask=ask):
                self.assert_error(BadFlow, None, ask, (0, ()))
                self.assert_error(BadFlow, 1, ask, (2, (FULL[1][0], None)))
                self.assert_plain_error(NotBalanced, ask, TILTED)
                self.assert_plain_error(NotBalanced, ask, (5, HEAVY[1] + ((4, 4, 1, 2, 0),)))
                self.assert_fields(TooMany, {"most": 2000}, ask, HEAVY)
                self.assert_fields(TooMany, {"most": 2000}, ask, DEAD_HEAVY)
                self.assert_plain_error(NotLive, ask, DEAD)
                # A flow that does not live is told of ahead of its many firings.
                self.assert_plain_error(NotLive, ask, (3, OVER[1] + ((2, 2, 1, 1, 0),)))

    def test_against_another_way(self):
        rounds = set()
        for seed in range(600):
            flow = balanced_flow(seed, 4, 6, 12)
            if is_live(flow):
                with self.subTest(flow=flow):
                    self.assertEqual(repr(needs(flow)), repr(plain_needs(flow)))
                rounds.update(ago for _, _, ago in needs(flow))
        self.assertGreaterEqual(rounds, {0, 1, 2, 3})
        self.assertEqual(repr(needs(RING)), repr(plain_needs(RING)))


if __name__ == "__main__":
    unittest.main()
