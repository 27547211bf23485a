"""Points 16 and 17: sets of boxes as one box."""

import itertools
import math
import unittest

from cases import ErrorCase
from rateflows.balance import repetitions
from rateflows.counts import shows_word, word_for
from rateflows.errors import BadFlow, BadSet, BadWord, NotBalanced, NotLive, TooMany
from rateflows.firing import line, run
from rateflows.live import is_live, round_word
from rateflows.sets import all_safe, as_one, is_safe, set_round, set_shares, unfolded, within
from samples import (DEAD, DEAD_HEAVY, FULL_ROUND, HEAVY, LONE, OWN, PAIR, RING, SKEW, STRANGE, TILTED, balanced_flow,
                     random_flow)

LINE = (3, ((0, 1, 1, 2, 0), (1, 2, 1, 2, 0)))
# Pipes into the set (1, 3), from it, within it, and beside it.
CROSS = (4, ((0, 1, 1, 2, 4), (1, 3, 1, 3, 5), (3, 3, 7, 7, 7), (3, 2, 6, 1, 0), (0, 2, 1, 1, 9), (2, 2, 1, 1, 1)))
# As one box, what the boxes 0 and 2 give each other through box 1 would be a ring.
THROUGH = (3, ((0, 1, 1, 1, 0), (1, 2, 1, 1, 0)))
# The boxes 0 and 1, as one, fire once a round and give 999 and, in the second flow, 1000.
EDGE = (3, ((0, 1, 1, 999, 0), (0, 2, 1, 1, 0)))
OVER = (3, ((0, 1, 1, 500, 0), (0, 2, 2, 1, 0)))
OF_SETS = (set_shares, as_one, within, is_safe, set_round, unfolded)
FOR_LIVE = (is_safe, set_round, unfolded)
WRONG_SETS = (*STRANGE, 0, 1, (), (-1,), (3,), (0, 3), (0, 0), (1, 0), (0, 2, 1), (0, 1, 1), (0, 1, 2, 2), [0], [0, 1],
              (0, True), (False, 1), (True, 2), ((0,),), (0, None), {0: 1}, "01", (0, "1"), 10 ** 30, (10 ** 30,))


def arguments(ask, flow, some, word=None):
    return (flow, some, word) if ask is unfolded else (flow, some)


def all_sets(flow):
    boxes = range(flow[0])
    return [some for many in range(1, flow[0] + 1) for some in itertools.combinations(boxes, many)]


def plain_shares(flow, some):
    counts = repetitions(flow)
    return [counts[box] // math.gcd(*[counts[other] for other in some]) if box in some else 0 for box in range(flow[0])]


def plain_fire(flow, held, fires):
    """Return the tokens behind firings that eat together, from others only, ahead of giving, None if not able."""
    behind = list(held)
    for place, (one, other, give, eat, _) in enumerate(flow[1]):
        if fires[one] and fires[other]:
            if one != other or sum(map(bool, fires)) > 1:
                continue
        behind[place] -= eat * fires[other]
        if behind[place] < 0:
            return None
        behind[place] += give * fires[one]
    return behind


def single_firings(flow, some):
    """Return the dict, for each box where a set is one, of how often each box of the flow is fired with it."""
    left = [box for box in range(flow[0]) if box not in some[1:]]
    shares = plain_shares(flow, some)
    return {k: shares if box == some[0] else [int(box == other) for other in range(flow[0])]
            for k, box in enumerate(left)}


def plainly_safe(flow, some):
    """Tell whether a round can be done in which the set's boxes are fired together."""
    counts = repetitions(flow)
    left = single_firings(flow, some)
    going = {k: min(n // share for n, share in zip(counts, fires) if share) for k, fires in left.items()}
    held = [pipe[4] for pipe in flow[1]]
    moved = True
    while moved:
        moved = False
        for k, fires in left.items():
            behind = plain_fire(flow, held, fires) if going[k] else None
            if behind is not None:
                held, moved = behind, True
                going[k] -= 1
    return not any(going.values())


class SetTest(ErrorCase):
    def test_shares(self):
        self.assertEqual(set_shares(LINE, (0, 1)), (2, 1, 0))
        self.assertEqual(set_shares(LINE, (0, 2)), (4, 0, 1))
        self.assertEqual(set_shares(LINE, (0, 1, 2)), (4, 2, 1))
        self.assertEqual(set_shares(LINE, (1, 2)), (0, 2, 1))
        for box in range(3):
            self.assertEqual(set_shares(LINE, (box,)), tuple(int(other == box) for other in range(3)))
        self.assertEqual(repetitions(CROSS), (6, 3, 6, 1))
        self.assertEqual(set_shares(CROSS, (0, 1, 2)), (2, 1, 2, 0))
        self.assertEqual(set_shares(LONE, (0,)), (1,))
        # Of boxes of several parts, too.
        self.assertEqual(set_shares((4, ((0, 1, 1, 2, 0), (2, 3, 1, 4, 0))), (0, 2)), (1, 0, 2, 0))

    def test_as_one(self):
        self.assertEqual(as_one(LINE, (0, 1)), (2, ((0, 1, 1, 2, 0),)))
        self.assertEqual(as_one(LINE, (0, 2)), (2, ((0, 1, 4, 2, 0), (1, 0, 1, 2, 0))))
        self.assertEqual(as_one(LINE, (1, 2)), (2, ((0, 1, 1, 4, 0),)))
        self.assertEqual(as_one(LINE, (0, 1, 2)), (1, ()))
        self.assertEqual(as_one(CROSS, (1, 3)),
                         (3, ((0, 1, 1, 6, 4), (1, 2, 6, 1, 0), (0, 2, 1, 1, 9), (2, 2, 1, 1, 1))))
        self.assertEqual(as_one(CROSS, (2, 3)), (3, ((0, 1, 1, 2, 4), (1, 2, 1, 3, 5), (0, 2, 1, 6, 9))))
        self.assertEqual(as_one(CROSS, (0, 3))[1][:3], ((0, 1, 6, 2, 4), (1, 0, 1, 3, 5), (0, 2, 6, 1, 0)))
        self.assertEqual(as_one(RING, (0, 1)), (1, ()))

    def test_a_set_of_one_box(self):
        for box in range(3):
            self.assertEqual(as_one(LINE, (box,)), LINE)
        self.assertEqual(as_one(LONE, (0,)), LONE)
        # A pipe from the box to itself is within the set.
        self.assertEqual(as_one(OWN, (0,)), LONE)
        self.assertEqual(as_one(CROSS, (3,)), (4, CROSS[1][:2] + CROSS[1][3:]))
        self.assertEqual(as_one(CROSS, (1,)), CROSS)

    def test_as_one_of_a_set_that_is_no_part(self):
        flow = (4, ((0, 1, 1, 2, 0), (2, 3, 1, 4, 0)))
        self.assertEqual(as_one(flow, (0, 2)), (3, ((0, 1, 1, 2, 0), (0, 2, 2, 4, 0))))
        self.assertEqual(as_one(flow, (1, 3)), (3, ((0, 1, 1, 2, 0), (2, 1, 1, 4, 0))))

    def test_rates_at_999_and_above(self):
        self.assertEqual(as_one(EDGE, (0, 1)), (2, ((0, 1, 999, 1, 0),)))
        self.assertEqual(as_one((3, EDGE[1][:1] + ((2, 0, 1, 1, 0),)), (0, 1)), (2, ((1, 0, 1, 999, 0),)))
        self.assert_fields(TooMany, {"most": 999}, as_one, OVER, (0, 1))
        self.assert_fields(TooMany, {"most": 999}, as_one, (3, OVER[1][:1] + ((2, 0, 1, 2, 0),)), (0, 1))
        self.assertEqual(as_one(OVER, (0, 2)), (2, ((0, 1, 1, 500, 0),)))
        # A pipe within the set has no rate to be too great.
        self.assertEqual(as_one((3, OVER[1] + ((0, 0, 3, 3, 3),)), (0, 1, 2)), (1, ()))
        # Wrong sets come ahead.
        self.assert_plain_error(BadSet, as_one, OVER, (1, 0))
        self.assert_plain_error(BadSet, as_one, OVER, (0, 1, 3))

    def test_within(self):
        self.assertEqual(within(LINE, (0, 1)), (2, ((0, 1, 1, 2, 0),)))
        self.assertEqual(within(LINE, (0, 2)), (2, ()))
        self.assertEqual(within(LINE, (1, 2)), (2, ((0, 1, 1, 2, 0),)))
        self.assertEqual(within(LINE, (0, 1, 2)), LINE)
        self.assertEqual(within(LINE, (2,)), LONE)
        self.assertEqual(within(CROSS, (1, 3)), (2, ((0, 1, 1, 3, 5), (1, 1, 7, 7, 7))))
        self.assertEqual(within(CROSS, (0, 2, 3)),
                         (3, ((2, 2, 7, 7, 7), (2, 1, 6, 1, 0), (0, 1, 1, 1, 9), (1, 1, 1, 1, 1))))
        self.assertEqual(within(OWN, (0,)), OWN)

    def test_within_any_flow(self):
        self.assertEqual(within(TILTED, (0, 1)), TILTED)
        self.assertEqual(within(TILTED, (1,)), LONE)
        self.assertEqual(within(HEAVY, (0, 2)), (2, ((0, 1, 999, 1, 0),)))
        self.assertEqual(within(DEAD, (1, 2)), (2, ((0, 0, 1, 1, 0), (0, 1, 1, 1, 2))))

    def test_shares_and_as_one_of_flows_that_are_stuck_or_heavy(self):
        self.assertEqual(set_shares(DEAD, (1, 2)), (0, 1, 1))
        self.assertEqual(as_one(DEAD, (1, 2)), (2, ()))
        self.assertEqual(set_shares(HEAVY, (1, 4)), (0, 999, 0, 0, 1))
        self.assertEqual(as_one(HEAVY, (1, 2)), (4, ((0, 1, 999, 1, 0), (0, 1, 999, 1, 0), (0, 2, 1, 1, 0))))

    def test_wrong_sets(self):
        for ask in OF_SETS:
            for some in WRONG_SETS:
                with self.subTest(ask=ask, some=some):
                    self.assert_plain_error(BadSet, ask, *arguments(ask, LINE, some))

    def test_against_another_way(self):
        tried = 0
        for seed in range(300):
            flow = balanced_flow(seed, 4, 6)
            for some in all_sets(flow):
                shares = plain_shares(flow, some)
                self.assertEqual(repr(set_shares(flow, some)), repr(tuple(shares)))
                firings = single_firings(flow, some)
                merged = as_one(flow, some)
                self.assertEqual(merged[0], len(firings))
                self.assertEqual(len(merged[1]) + len(within(flow, some)[1]), len(flow[1]))
                counts = repetitions(flow)
                whole = {k: [n // share for n, share in zip(counts, fires) if share] for k, fires in firings.items()}
                self.assertEqual(repetitions(merged), tuple(max(many) for many in whole.values()))
                # A firing of each box there changes the pipes that are left as the firings do for which it stands.
                for k, fires in firings.items():
                    outside = [p for p in flow[1] if not (p[0] in some and p[1] in some)]
                    for pipe, (one, other, give, eat, start) in zip(outside, merged[1]):
                        self.assertEqual(start, pipe[4])
                        self.assertEqual(give * (one == k), pipe[2] * fires[pipe[0]])
                        self.assertEqual(eat * (other == k), pipe[3] * fires[pipe[1]])
                        tried += 1
        self.assertGreater(tried, 1000)


class SafeTest(ErrorCase):
    def test_is_safe(self):
        self.assertIs(is_safe(LINE, (0, 1)), True)
        self.assertIs(is_safe(LINE, (0, 2)), False)
        self.assertIs(is_safe(LINE, (0, 1, 2)), True)
        self.assertIs(is_safe(THROUGH, (0, 2)), False)
        self.assertIs(is_safe((3, ((0, 1, 1, 1, 0), (1, 2, 1, 1, 1))), (0, 2)), True)
        self.assertIs(is_safe((3, ((0, 1, 1, 1, 1), (1, 2, 1, 1, 0))), (0, 2)), True)
        self.assertIs(is_safe(RING, (0, 1)), True)
        self.assertIs(is_safe(OWN, (0,)), True)

    def test_a_set_of_which_all_firings_need_more_at_once(self):
        # Box 2 gives back what the boxes 0 and 1 eat, a round of them needs two of it.
        for start in (1, 2, 3):
            flow = (3, ((0, 1, 1, 2, 0), (0, 2, 1, 1, 0), (2, 0, 1, 1, start)))
            self.assertIs(is_safe(flow, (0, 1)), start >= 2)
            self.assertIs(is_safe(flow, (0, 2)), True)

    def test_all_safe(self):
        self.assertEqual(all_safe(LINE), [(0,), (0, 1), (0, 1, 2), (1,), (1, 2), (2,)])
        self.assertEqual(all_safe(LONE), [(0,)])
        self.assertEqual(all_safe(OWN), [(0,)])
        self.assertEqual(all_safe(RING), [(0,), (0, 1), (1,)])
        self.assertEqual(all_safe((2, ())), [(0,), (0, 1), (1,)])

    def test_6_boxes_and_7(self):
        self.assertEqual(all_safe((6, ())), sorted(all_sets((6, ()))))
        chain = (6, tuple((k, k + 1, 1, 1, 0) for k in range(5)))
        self.assertEqual(all_safe(chain), [tuple(range(k, end)) for k in range(6) for end in range(k + 1, 7)])
        self.assert_fields(TooMany, {"most": 6}, all_safe, (7, ()))
        self.assert_fields(TooMany, {"most": 6}, all_safe, (8, chain[1]))
        # The others take 8 boxes.
        self.assertIs(is_safe((8, ()), (0, 7)), True)
        self.assertEqual(set_round((8, ()), (6, 7)), (0, 1, 2, 3, 4, 5, 6, 7))
        # All that is wrong with the flow comes ahead of its many boxes.
        self.assert_plain_error(NotBalanced, all_safe, (7, TILTED[1]))
        self.assert_fields(TooMany, {"most": 2000}, all_safe, (7, FULL_ROUND[1]))
        self.assert_plain_error(NotLive, all_safe, (7, DEAD[1]))
        self.assert_error(BadFlow, None, all_safe, (9, ()))

    def test_rates_above_999_are_no_error_here(self):
        self.assertIs(is_safe(OVER, (0, 1)), True)
        self.assertEqual(all_safe(OVER), [(0,), (0, 1), (0, 1, 2), (0, 2), (1,), (1, 2), (2,)])
        back = (3, OVER[1] + ((2, 0, 1, 2, 2),))
        self.assertIs(is_safe(back, (0, 1)), False)
        self.assertIs(is_safe((3, OVER[1] + ((2, 0, 1, 2, 999),)), (0, 1)), False)
        enough = (3, OVER[1] + ((2, 0, 1, 2, 1000),))
        self.assertIs(is_safe(enough, (0, 1)), True)
        self.assertEqual(set_round(enough, (0, 1)), (0,) * 500 + (1,) + (2,) * 1000)
        self.assertEqual(unfolded(enough, (0, 1), (0, 1)), (0,) * 500 + (1, 2))
        self.assert_error(BadWord, 1, unfolded, enough, (0, 1), (0, 0))

    def test_against_another_way(self):
        told = {True: 0, False: 0}
        for seed in range(500):
            flow = balanced_flow(seed, 4, 6, 5, 2)
            if not is_live(flow):
                continue
            safe = []
            for some in sorted(all_sets(flow)):
                expected = plainly_safe(flow, some)
                told[expected] += 1
                with self.subTest(flow=flow, some=some):
                    self.assertIs(is_safe(flow, some), expected)
                    self.assertIs(is_live(as_one(flow, some)), expected)
                safe += [some] * expected
            self.assertEqual(repr(all_safe(flow)), repr(safe))
        self.assertGreater(min(told.values()), 50)

    def test_the_list_is_new(self):
        first = all_safe(LINE)
        first.clear()
        self.assertEqual(len(all_safe(LINE)), 6)


class WordTest(ErrorCase):
    def test_unfolded(self):
        self.assertEqual(unfolded(LINE, (0, 1), (0, 0, 1)), (0, 0, 1, 0, 0, 1, 2))
        self.assertEqual(unfolded(LINE, (1, 2), (0, 0, 0, 0, 1)), (0, 0, 0, 0, 1, 1, 2))
        self.assertEqual(unfolded(LINE, (0, 1), ()), ())
        self.assertEqual(unfolded(LINE, (0, 1, 2), (0, 0)), (0, 0, 0, 0, 1, 1, 2) * 2)
        self.assertEqual(unfolded(LINE, (1,), (0, 0, 1)), (0, 0, 1))
        self.assertEqual(unfolded(RING, (0, 1), (0,)), (0, 0, 1, 0, 1))
        # A set that is not safe: not all of its round can be done, but a part of it.
        self.assertEqual(unfolded((3, ((0, 1, 1, 1, 0), (1, 2, 1, 1, 0), (1, 1, 1, 1, 1))), (0, 2), ()), ())
        self.assertEqual(unfolded((4, THROUGH[1]), (0, 2), (2, 2)), (3, 3))

    def test_names_behind_the_set(self):
        flow = (5, ((1, 3, 1, 2, 0),))
        self.assertEqual(unfolded(flow, (1, 3), (0, 1, 2, 3)), (0, 1, 1, 3, 2, 4))
        self.assertEqual(unfolded(flow, (0, 4), (0, 1, 1, 2, 3)), (0, 4, 1, 1, 2, 3))

    def test_a_word_that_cannot_be_done(self):
        self.assert_error(BadWord, 3, unfolded, LINE, (0, 1), (0, 0, 1, 1))
        self.assert_error(BadWord, 0, unfolded, LINE, (0, 1), (1,))
        self.assert_error(BadWord, 0, unfolded, LINE, (0, 2), (0,))
        self.assert_error(BadWord, 3, unfolded, LINE, (1, 2), (0, 0, 0, 1, 0))
        # Box 2 of the flow is box 1 where the first two are one, and there is no box 2.
        for word in (*STRANGE, (2,), (0, 0, 2), (-1,), (0, True), [0], [0, 0, 1], (0,) * 2001, 0, "001"):
            self.assert_error(BadWord, None, unfolded, LINE, (0, 1), word)
        self.assert_error(BadWord, None, unfolded, LINE, (0, 1, 2), (1,))

    def test_words_of_2000_firings(self):
        self.assertEqual(unfolded(LINE, (0, 1), (0,) * 2000), (0, 0, 1) * 2000)
        self.assert_error(BadWord, 1999, unfolded, LINE, (0, 1), (0,) * 1333 + (1,) * 667)

    def test_set_round(self):
        self.assertEqual(set_round(LINE, (1, 2)), (0, 0, 0, 0, 1, 1, 2))
        self.assertEqual(set_round(LINE, (0, 1)), (0, 0, 1, 0, 0, 1, 2))
        self.assertEqual(set_round(LINE, (0, 1, 2)), (0, 0, 0, 0, 1, 1, 2))
        self.assertEqual(set_round(RING, (0,)), round_word(RING))
        self.assertEqual(set_round(LONE, (0,)), (0,))
        # The set stands in the place of its least box, so box 1 comes ahead of it where that is not so.
        self.assertEqual(set_round((3, ()), (0, 2)), (0, 2, 1))
        self.assertEqual(set_round((3, ()), (1, 2)), (0, 1, 2))

    def test_set_round_of_a_set_that_is_not_safe(self):
        self.assert_plain_error(BadSet, set_round, LINE, (0, 2))
        self.assert_plain_error(BadSet, set_round, THROUGH, (0, 2))

    def test_against_another_way(self):
        tried = 0
        for seed in range(120):
            flow = balanced_flow(seed, 4, 6, 5, 2)
            if not is_live(flow):
                continue
            for some in all_sets(flow):
                if not plainly_safe(flow, some):
                    self.assert_plain_error(BadSet, set_round, flow, some)
                    continue
                merged, left = as_one(flow, some), [box for box in range(flow[0]) if box not in some[1:]]
                inner = tuple(some[box] for box in word_for(within(flow, some), tuple(
                    share for share in set_shares(flow, some) if share)))
                told = set_round(flow, some)
                with self.subTest(flow=flow, some=some):
                    expected = [inner if left[box] == some[0] else (left[box],) for box in round_word(merged)]
                    self.assertEqual(told, sum(expected, ()))
                    self.assertIs(shows_word(flow, repetitions(flow), told), True)
                    self.assertEqual(unfolded(flow, some, round_word(merged)), told)
                    self.assert_words(flow, some, merged, left, inner)
                tried += 1
        self.assertGreater(tried, 200)

    def assert_words(self, flow, some, merged, left, inner):
        """Assert that words of up to three firings where the set is one can be done just if it says so."""
        for word in itertools.product(range(merged[0]), repeat=3):
            try:
                rows = line(merged, word)
            except BadWord as error:
                self.assert_error(BadWord, error.index, unfolded, flow, some, word)
                continue
            told = unfolded(flow, some, word)
            self.assertEqual(told, sum([inner if left[box] == some[0] else (left[box],) for box in word], ()))
            behind = run(flow, told)[1]
            self.assertEqual([pipe[4] for pipe in behind if pipe[0] not in some or pipe[1] not in some], [*rows[-1]])

    def test_errors_of_the_flow(self):
        for ask in FOR_LIVE:
            with self.subTest(ask=ask):
                self.assert_plain_error(NotLive, ask, *arguments(ask, DEAD, None))
                self.assert_fields(TooMany, {"most": 2000}, ask, *arguments(ask, HEAVY, None))
                self.assert_fields(TooMany, {"most": 2000}, ask, *arguments(ask, DEAD_HEAVY, None))
        for ask in OF_SETS:
            with self.subTest(ask=ask):
                self.assert_error(BadFlow, None, ask, *arguments(ask, (0, ()), None))
                self.assert_error(BadFlow, 0, ask, *arguments(ask, (1, (None,)), None))
                if ask is not within:
                    self.assert_plain_error(NotBalanced, ask, *arguments(ask, TILTED, None))
                    heavy = (HEAVY[0], HEAVY[1] + ((4, 4, 1, 2, 0),))
                    self.assert_plain_error(NotBalanced, ask, *arguments(ask, heavy, None))
        for seed in range(50):
            within(random_flow(seed), (0,))

    def test_the_leftmost_error(self):
        self.assert_plain_error(BadSet, unfolded, LINE, (1, 0), None)
        self.assert_plain_error(BadSet, unfolded, LINE, (), (1,))
        self.assert_plain_error(NotLive, unfolded, DEAD, (), None)
        self.assert_error(BadWord, None, unfolded, OVER, (0, 1), None)
        self.assert_error(BadWord, None, unfolded, LINE, (0, 2), None)


if __name__ == "__main__":
    unittest.main()
