"""Point 9: tokens that come from those of a flow."""

import random
import unittest

from cases import ErrorCase
from rateflows.counts import word_for
from rateflows.errors import BadFlow, BadMarks, NotBalanced, TooMany
from rateflows.firing import run
from rateflows.flows import is_tied, marks, with_marks
from rateflows.live import is_live
from rateflows.reach import all_come, comes, counts_to
from samples import (DEAD, DEAD_HEAVY, HEAVY, LONE, MIXED, OWN, PAIR, RING, STRANGE, TILTED, WIDEST, balanced_flow,
                     random_flow)

STUCK = (3, ((0, 1, 1, 1, 0), (1, 2, 1, 1, 0), (2, 0, 1, 1, 0)))


def ring_with(tokens):
    return (2, ((0, 1, 1, 1, 0), (1, 0, 1, 1, tokens)))


def plain_reach(flow, most):
    """Return a dict of the tokens that come by at most so many firings, each with the counts of all words to them."""
    boxes, pipes = flow
    found = {}
    rows = {(0,) * boxes}
    for _ in range(most + 1):
        longer = set()
        for done in rows:
            held = tuple(p[4] + p[2] * done[p[0]] - p[3] * done[p[1]] for p in pipes)
            found.setdefault(held, set()).add(done)
            for box in range(boxes):
                if all(n >= p[3] for n, p in zip(held, pipes) if p[1] == box):
                    longer.add(tuple(many + (k == box) for k, many in enumerate(done)))
        rows = longer
    return found


class CountsToTest(ErrorCase):
    def assert_counts(self, flow, some, counts):
        with self.subTest(flow=flow, some=some):
            self.assertEqual(repr(counts_to(flow, some)), repr(counts))
            self.assertIs(comes(flow, some), counts is not None)

    def test_tokens_that_come(self):
        self.assert_counts(RING, (1, 4), (0, 0))
        self.assert_counts(RING, (0, 5), (1, 1))
        self.assert_counts(RING, (5, 0), (2, 0))
        self.assert_counts(RING, (4, 1), (3, 1))
        self.assert_counts(PAIR, (0,), (1, 1))
        self.assert_counts(PAIR, (4,), (3, 1))
        self.assert_counts(LONE, (), (0,))
        self.assert_counts(OWN, (3,), (0,))
        self.assert_counts(DEAD, (0, 0), (0, 0, 2))
        self.assert_counts((8, ()), (), (0,) * 8)

    def test_tokens_that_do_not_come(self):
        self.assert_counts(RING, (2, 4), None)
        self.assert_counts(RING, (0, 0), None)
        self.assert_counts(OWN, (2,), None)
        self.assert_counts(DEAD, (0, 3), None)
        self.assert_counts(DEAD, (1, 2), None)
        self.assert_counts((2, ((0, 1, 2, 4, 1),)), (4,), None)
        self.assert_counts((2, ((0, 1, 1, 1, 0), (0, 1, 1, 1, 1))), (1, 1), None)
        self.assert_counts((2, ((0, 1, 1, 1, 0), (0, 1, 1, 1, 1))), (1, 2), (1, 0))

    def test_counts_that_would_fit_but_cannot_be_done(self):
        flow = (3, STUCK[1] + ((2, 2, 1, 1, 1),))
        self.assert_counts(flow, (0, 0, 0, 1), (0, 0, 0))
        self.assert_counts((4, STUCK[1] + ((0, 3, 1, 1, 0),)), (0, 0, 0, 1), None)
        self.assert_counts((4, STUCK[1] + ((0, 3, 1, 1, 9),)), (0, 0, 0, 5), (0, 0, 0, 4))
        self.assert_counts((2, ((0, 1, 2, 3, 1), (1, 0, 3, 2, 2))), (0, 3), (1, 1))
        self.assert_counts((2, ((0, 1, 2, 3, 1), (1, 0, 3, 2, 2))), (1, 2), (0, 0))
        self.assert_counts((2, ((0, 1, 2, 2, 1), (1, 0, 2, 2, 1))), (3, 99999), None)

    def test_each_part_has_its_least_counts(self):
        flow = (5, ((0, 3, 2, 3, 1), (4, 1, 1, 1, 0)))
        self.assert_counts(flow, (0, 5), (1, 0, 0, 1, 5))
        self.assert_counts(flow, (1, 0), (0, 0, 0, 0, 0))
        self.assert_counts(flow, (2, 3), (2, 0, 0, 1, 3))

    def test_a_word_has_at_most_2000_firings(self):
        chain = (2, ((0, 1, 1, 1, 0),))
        self.assert_counts(chain, (200,), (200, 0))
        self.assert_counts(chain, (201,), (201, 0))
        self.assert_counts(chain, (2000,), (2000, 0))
        self.assert_counts(chain, (2001,), None)
        self.assert_counts((2, ((0, 1, 1, 1, 2000),)), (0,), (0, 2000))
        self.assert_counts((2, ((0, 1, 1, 1, 2001),)), (0,), None)
        self.assert_counts((4, ((0, 1, 1, 1, 0), (2, 3, 1, 1, 0))), (1000, 1000), (1000, 0, 1000, 0))
        self.assert_counts((4, ((0, 1, 1, 1, 0), (2, 3, 1, 1, 0))), (1000, 1001), None)

    def test_many_tokens(self):
        self.assert_counts((2, ((0, 1, 999, 1, 0),)), (99900,), (100, 0))
        self.assert_counts((2, ((0, 1, 999, 999, 99999),)), (99,), (0, 100))
        # Firings in between may leave more than 99999.
        self.assert_counts((3, ((0, 1, 1, 1, 99999), (0, 1, 1, 1, 0), (1, 2, 1, 1, 0))), (99999, 0, 1), (1, 1, 0))
        self.assert_counts((2, ((0, 1, 1, 1, 99999), (1, 0, 1, 1, 2))), (99998, 3), (0, 1))

    def test_rounds_may_be_of_any_length(self):
        self.assert_counts(HEAVY, (998, 999, 1), (1, 1, 0, 0, 0))
        self.assert_counts(DEAD_HEAVY, (998, 999, 1, 0), (1, 1, 0, 0, 0))

    def test_flows_that_are_not_balanced(self):
        for ask in (counts_to, comes):
            for flow in (TILTED, MIXED, WIDEST):
                self.assert_plain_error(NotBalanced, ask, flow, marks(flow))
                self.assert_plain_error(NotBalanced, ask, flow, None)
                self.assert_plain_error(NotBalanced, ask, flow, (-1,) * len(flow[1]))

    def test_bad_tokens(self):
        for ask in (counts_to, comes):
            for some in (None, 0, True, "ab", "", [1, 4], {0: 1, 1: 4}, (), (1,), (1, 4, 0), (None,) * 3):
                self.assert_error(BadMarks, None, ask, RING, some)
            for item in (*STRANGE, -1, 100000, 10 ** 30, (0,)):
                self.assert_error(BadMarks, 0, ask, RING, (item, item))
                self.assert_error(BadMarks, 1, ask, RING, (1, item))
            self.assert_error(BadFlow, None, ask, (0, ()), (-1,))
            self.assert_error(BadMarks, None, ask, LONE, (0,))

    def test_against_another_way(self):
        draw = random.Random(9)
        told = {True: 0, False: 0}
        for seed in range(150):
            flow = balanced_flow(seed, 3, 5)
            reach = plain_reach(flow, 9)
            for held in sorted(reach)[:20]:
                # The least counts are nowhere greater than any others.
                least = tuple(min(row[k] for row in reach[held]) for k in range(flow[0]))
                self.assertIn(least, reach[held])
                self.assert_counts(flow, held, least)
                self.assertEqual(run(flow, word_for(flow, least)), with_held(flow, held))
            for _ in range(20):
                held = tuple(max(0, pipe[4] + draw.randint(-2, 2)) for pipe in flow[1])
                counts = counts_to(flow, held)
                if counts is None or sum(counts) <= 9:
                    self.assertIs(counts is not None, held in reach)
                    told[held in reach] += 1
        self.assertGreater(min(told.values()), 100)


def with_held(flow, held):
    return flow[0], tuple(pipe[:4] + (tokens,) for pipe, tokens in zip(flow[1], held))


class AllComeTest(ErrorCase):
    def test_all_that_come(self):
        self.assertEqual(all_come(RING), [(0, 5), (1, 4), (2, 3), (3, 2), (4, 1), (5, 0)])
        self.assertEqual(all_come(LONE), [()])
        self.assertEqual(all_come((8, ())), [()])
        self.assertEqual(all_come(OWN), [(3,)])
        self.assertEqual(all_come(STUCK), [(0, 0, 0)])
        self.assertEqual(all_come((2, ((1, 1, 1, 1, 0), (0, 0, 1, 2, 5)))), [(0, 1), (0, 2), (0, 3), (0, 4), (0, 5)])

    def test_flows_that_are_not_balanced(self):
        self.assertEqual(all_come(TILTED), [(0, 0)])
        self.assertEqual(all_come((2, ((0, 1, 1, 2, 0), (1, 0, 1, 1, 3)))), [(0, 1), (0, 2), (0, 3), (1, 0), (1, 1),
                                                                              (1, 2), (2, 0), (2, 1), (3, 0)])

    def test_1000_tokens_that_come_and_more(self):
        for tokens in (0, 1, 998, 999):
            told = [(tokens - held, held) for held in range(tokens, -1, -1)]
            self.assertEqual(all_come(ring_with(tokens)), told)
            self.assertTrue(all(comes(ring_with(tokens), some) for some in told[::37]))
        for tokens in (1000, 1001, 99999):
            self.assert_fields(TooMany, {"most": 1000}, all_come, ring_with(tokens))

    def test_tokens_without_end(self):
        for flow in (PAIR, (1, ((0, 0, 2, 1, 1),)), MIXED):
            self.assert_fields(TooMany, {"most": 1000}, all_come, flow)

    def test_more_than_99999_tokens_may_come(self):
        flow = (2, ((0, 0, 1, 2, 2), (0, 1, 999, 999, 99998)))
        told = all_come(flow)
        self.assertEqual(told[-1], (2, 99998))
        self.assertEqual(max(told, key=lambda row: row[1]), (1, 100997))
        self.assertEqual(len(told), 101 + 102)

    def test_the_list_is_ascending_and_new(self):
        first, second = all_come(RING), all_come(RING)
        self.assertEqual(first, sorted(set(first)))
        first.clear()
        self.assertEqual(len(second), len(all_come(RING)))

    def test_tokens_that_come_lead_back_in_a_flow_that_lives_and_is_tied(self):
        tried = 0
        for seed in range(600):
            flow = balanced_flow(seed, 3, 5, 4)
            if is_tied(flow) and is_live(flow) and flow[1]:
                told = all_come(flow)
                tried += len(told) > 1
                for some in told:
                    self.assertIs(comes(with_marks(flow, some), marks(flow)), True)
        self.assertGreater(tried, 10)

    def test_against_another_way(self):
        told = {True: 0, False: 0}
        for seed in range(300):
            flow = balanced_flow(seed, 3, 6, 4) if seed % 2 else random_flow(seed)
            reach = {marks(flow)}
            rows = [marks(flow)]
            while rows and len(reach) <= 1000:
                held = rows.pop(0)
                for box in range(flow[0]):
                    if all(n >= p[3] for n, p in zip(held, flow[1]) if p[1] == box):
                        behind = tuple(n - p[3] * (p[1] == box) + p[2] * (p[0] == box) for n, p in zip(held, flow[1]))
                        if behind not in reach:
                            reach.add(behind)
                            rows.append(behind)
            told[bool(rows)] += 1
            with self.subTest(flow=flow):
                if len(reach) > 1000:
                    self.assert_fields(TooMany, {"most": 1000}, all_come, flow)
                else:
                    self.assertEqual(repr(all_come(flow)), repr(sorted(reach)))
        self.assertGreater(min(told.values()), 50)


if __name__ == "__main__":
    unittest.main()
