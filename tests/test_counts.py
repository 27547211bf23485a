"""Points 6 and 7: counts, what of them can be done, and what the rest waits for."""

import functools
import random
import unittest
from math import comb, factorial

from cases import ErrorCase
from rateflows.counts import blame, can_do, ends, most_done, shows_blame, shows_word, waits, ways, word_for
from rateflows.errors import BadCounts, BadFlow, TooMany
from rateflows.firing import line
from rateflows.flows import marks
from samples import DEAD, FLOWS, LONE, MIXED, OWN, PAIR, RING, SKEW, STRANGE, TILTED, balanced_flow, random_flow

OF_COUNTS = (ends, can_do, most_done, waits, blame, word_for, ways)
# Each box waits for the next one.
STUCK = (3, ((0, 1, 1, 1, 0), (1, 2, 1, 1, 0), (2, 0, 1, 1, 0)))
# The box 2 waits for 1, which waits for 0, which is done but gives too little.
SHORT = (3, ((0, 1, 1, 2, 0), (1, 2, 1, 1, 0)))


def plain_words(flow, counts):
    """Return the list of all words with just these counts, by trying all."""
    boxes, pipes = flow
    found = []

    def further(word, held, left):
        if not any(left):
            found.append(word)
        for box in range(boxes):
            if left[box] and all(n >= p[3] for n, p in zip(held, pipes) if p[1] == box):
                behind = [n - p[3] * (p[1] == box) + p[2] * (p[0] == box) for n, p in zip(held, pipes)]
                further(word + (box,), behind, [n - (k == box) for k, n in enumerate(left)])

    further((), [p[4] for p in pipes], list(counts))
    return found


def plain_most(flow, counts):
    """Return the counts of the words that can't be made longer within counts, as a set, by trying all."""
    boxes, pipes = flow
    last = set()

    @functools.cache
    def further(done):
        held = [p[4] + p[2] * done[p[0]] - p[3] * done[p[1]] for p in pipes]
        able = [box for box in range(boxes) if done[box] < counts[box]
                and all(n >= p[3] for n, p in zip(held, pipes) if p[1] == box)]
        for box in able:
            further(tuple(n + (k == box) for k, n in enumerate(done)))
        if not able:
            last.add(done)

    further((0,) * boxes)
    return last


def plainly_blamed(flow, counts, value):
    """Tell whether a tuple of pipes shows why counts can't be done, from the point's own words."""
    done, = plain_most(flow, counts)
    pipes = flow[1]
    left = {box for box in range(flow[0]) if done[box] < counts[box]}
    held = [p[4] + p[2] * done[p[0]] - p[3] * done[p[1]] for p in pipes]
    waiting = {k for k, p in enumerate(pipes) if p[1] in left and held[k] < p[3]}
    if value == () or not set(value) <= waiting:
        return False
    if any(pipes[value[k]][1] != pipes[value[k - 1]][0] for k in range(1, len(value))):
        return False
    end = pipes[value[-1]][0]
    return end not in left or end == pipes[value[0]][1]


def cases(most, seeds=250):
    """Return pairs of a flow and counts up to a number."""
    draw = random.Random(7)
    flows = [random_flow(seed) for seed in range(seeds)] + [balanced_flow(seed) for seed in range(seeds)]
    small = [flow for flow in flows if flow[0] <= 4]
    return [(flow, tuple(draw.randint(0, most) for _ in range(flow[0]))) for flow in small]


class CountsTest(ErrorCase):
    def test_numbers(self):
        for many in (0, 1, 199, 200):
            self.assertEqual(ends(LONE, (many,)), ())
            self.assertEqual(most_done(LONE, (many,)), (many,))
        for many in (-1, 201, 10 ** 30, -200, True, False, None, "1", (1,), [1], {}):
            for ask in OF_COUNTS:
                with self.subTest(ask=ask, many=many):
                    self.assert_error(BadCounts, 0, ask, RING, (many, many))
                    self.assert_error(BadCounts, 1, ask, RING, (0, many))
                    self.assert_error(BadCounts, 7, ask, (8, ()), (0,) * 7 + (many,))

    def test_values_that_are_no_tuples_of_as_many_items(self):
        for value in (None, 0, 2, True, "", "00", [], [0, 0], {}, {0: 0, 1: 0}, (), (0,), (0, 0, 0), (None,)):
            for ask in OF_COUNTS:
                with self.subTest(ask=ask, value=value):
                    self.assert_error(BadCounts, None, ask, RING, value)

    def test_judging_functions_check_the_flow_and_the_counts(self):
        for ask in (shows_blame, shows_word):
            self.assert_error(BadFlow, None, ask, (0, ()), (201,), None)
            self.assert_error(BadCounts, None, ask, RING, [0, 0], None)
            self.assert_error(BadCounts, 1, ask, RING, (0, 201), None)
            self.assert_error(BadCounts, 0, ask, RING, (True, 0), ())


class DoneTest(ErrorCase):
    def test_ends(self):
        self.assertEqual(ends(PAIR, (3, 2)), (1,))
        self.assertEqual(ends(PAIR, (0, 200)), (-599,))
        self.assertEqual(ends(PAIR, (200, 0)), (401,))
        self.assertEqual(ends(RING, (1, 1)), (0, 5))
        self.assertEqual(ends(OWN, (7,)), (3,))
        self.assertEqual(ends((1, ((0, 0, 1, 4, 3),)), (2,)), (-3,))
        self.assertEqual(ends((2, ((0, 1, 999, 1, 99999),)), (200, 0)), (299799,))
        self.assertEqual(ends(LONE, (5,)), ())

    def test_no_counts(self):
        for flow in FLOWS:
            none = (0,) * flow[0]
            self.assertEqual(ends(flow, none), marks(flow))
            self.assertIs(can_do(flow, none), True)
            self.assertEqual(most_done(flow, none), none)
            self.assertEqual([waits(flow, none), blame(flow, none), word_for(flow, none)], [(), None, ()])
            self.assertEqual(ways(flow, none), 1)

    def test_counts_that_can_be_done(self):
        self.assertIs(can_do(PAIR, (3, 2)), True)
        self.assertIs(can_do(PAIR, (200, 133)), True)
        self.assertIs(can_do(RING, (150, 100)), True)
        self.assertIs(can_do((8, ()), (200,) * 8), True)
        self.assertIs(can_do(OWN, (200,)), True)

    def test_counts_that_cannot_be_done(self):
        self.assertIs(can_do(PAIR, (3, 3)), False)
        self.assertIs(can_do(PAIR, (200, 134)), False)
        self.assertIs(can_do(STUCK, (1, 1, 1)), False)
        self.assertEqual(most_done(STUCK, (9, 9, 9)), (0, 0, 0))
        self.assertEqual(most_done(PAIR, (200, 200)), (200, 133))
        self.assertEqual(most_done(PAIR, (0, 200)), (0, 0))
        self.assertEqual(most_done(SHORT, (3, 5, 5)), (3, 1, 1))
        self.assertEqual(most_done(RING, (200, 0)), (2, 0))

    def test_a_box_that_gives_to_itself(self):
        self.assertEqual(most_done((1, ((0, 0, 1, 2, 9),)), (200,)), (8,))
        self.assertEqual(most_done((1, ((0, 0, 1, 2, 1),)), (200,)), (0,))
        self.assertEqual(most_done((1, ((0, 0, 2, 5, 17),)), (200,)), (5,))
        self.assertEqual(most_done((1, ((0, 0, 2, 1, 1),)), (200,)), (200,))
        self.assertEqual(most_done((1, ((0, 0, 5, 5, 4),)), (200,)), (0,))

    def test_most_done_against_another_way(self):
        for flow, counts in cases(4):
            with self.subTest(flow=flow, counts=counts):
                most, = plain_most(flow, counts)
                self.assertEqual(most_done(flow, counts), most)
                self.assertIs(can_do(flow, counts), most == counts)
                held = tuple(p[4] + p[2] * counts[p[0]] - p[3] * counts[p[1]] for p in flow[1])
                self.assertEqual(ends(flow, counts), held)

    def test_most_done_is_done_by_some_word(self):
        for flow, counts in cases(200, 80):
            most = most_done(flow, counts)
            with self.subTest(flow=flow, counts=counts):
                self.assertTrue(all(0 <= many <= limit for many, limit in zip(most, counts)))
                word = word_for(flow, most)
                self.assertEqual(tuple(map(word.count, range(flow[0]))), most)
                self.assertEqual(line(flow, word)[-1], ends(flow, most))
                self.assertEqual(most_done(flow, most), most)


class WaitsTest(ErrorCase):
    def test_waits(self):
        self.assertEqual(waits(PAIR, (1, 2)), (0,))
        self.assertEqual(waits(STUCK, (1, 1, 1)), (0, 1, 2))
        self.assertEqual(waits(STUCK, (0, 1, 0)), (0,))
        self.assertEqual(waits(SHORT, (1, 1, 1)), (0, 1))
        self.assertEqual(waits(SHORT, (2, 1, 1)), ())
        many = (2, ((0, 1, 1, 3, 2), (0, 1, 1, 3, 3), (1, 0, 1, 9, 0), (1, 1, 1, 2, 1), (0, 1, 1, 1, 0)))
        self.assertEqual(waits(many, (0, 1)), (0, 3, 4))
        self.assertEqual(waits(many, (1, 1)), (0, 2, 3, 4))

    def test_what_waits_is_lacking_behind_all_that_can_be_done(self):
        two = (2, ((0, 1, 1, 1, 0), (0, 1, 1, 1, 5)))
        self.assertEqual(waits(two, (3, 6)), (0,))
        self.assertEqual(waits(two, (3, 3)), ())
        self.assertEqual(waits((1, ((0, 0, 1, 2, 9),)), (9,)), (0,))
        self.assertEqual(waits((1, ((0, 0, 1, 2, 9),)), (8,)), ())

    def test_blame(self):
        self.assertEqual(blame(PAIR, (1, 2)), (0,))
        self.assertIsNone(blame(PAIR, (1, 1)))
        self.assertEqual(blame((1, ((0, 0, 1, 1, 0),)), (1,)), (0,))
        self.assertEqual(blame(STUCK, (0, 1, 0)), (0,))
        self.assertIn(blame(STUCK, (1, 1, 1)), [(0, 2, 1), (2, 1, 0), (1, 0, 2)])
        self.assertIn(blame(SHORT, (1, 1, 1)), [(1, 0), (0,)])

    def test_a_ring_that_waits_for_itself_behind_boxes_that_wait_for_it(self):
        flow = (4, STUCK[1] + ((2, 3, 1, 1, 0),))
        for value in ((0, 2, 1), (2, 1, 0), (1, 0, 2), (0, 2, 1, 0, 2, 1)):
            self.assertIs(shows_blame(flow, (1, 1, 1, 1), value), True)
        for value in ((3,), (3, 1), (3, 1, 0), (3, 1, 0, 2), (0,), (0, 2), (0, 1, 2), (1, 2, 0)):
            self.assertIs(shows_blame(flow, (1, 1, 1, 1), value), False)

    def test_shows_blame(self):
        self.assertIs(shows_blame(SHORT, (1, 1, 1), (0,)), True)
        self.assertIs(shows_blame(SHORT, (1, 1, 1), (1, 0)), True)
        self.assertIs(shows_blame(SHORT, (1, 1, 1), (0, 1)), False)
        self.assertIs(shows_blame(SHORT, (1, 1, 1), (1,)), False)
        self.assertIs(shows_blame(SHORT, (1, 1, 1), (0, 0)), False)
        self.assertIs(shows_blame(SHORT, (1, 1, 1), None), False)
        self.assertIs(shows_blame(SHORT, (2, 1, 1), None), True)
        self.assertIs(shows_blame(SHORT, (2, 1, 1), (0,)), False)
        self.assertIs(shows_blame(SHORT, (2, 1, 1), ()), False)
        self.assertIs(shows_blame((1, ((0, 0, 1, 1, 0),)), (1,), (0, 0, 0)), True)

    def test_pipes_that_are_not_waited_for_show_nothing(self):
        # The pipe 1 holds enough, the pipe 2 leads to a box that is not left.
        flow = (3, ((0, 1, 1, 1, 0), (0, 1, 1, 1, 5), (0, 2, 1, 1, 0)))
        self.assertEqual(waits(flow, (3, 6, 3)), (0,))
        for value, told in (((0,), True), ((1,), False), ((2,), False), ((1, 0), False)):
            self.assertIs(shows_blame(flow, (3, 6, 3), value), told)

    def test_odd_values_for_shows_blame(self):
        odd = ((), [0], [1, 0], (False,), (True, False), (True, 0), (1, False), ("0",), (None,), ((0,),), ([],), (-1,),
               (-2,), (2,), (10 ** 30,), {0: 0}, 0, "0", False, True, ((1, 0),), (1, 0, None), (1, 0, 1))
        for value in (*STRANGE, *odd):
            with self.subTest(value=value):
                self.assertIs(shows_blame(SHORT, (1, 1, 1), value), False)
                self.assertIs(shows_blame(SHORT, (2, 1, 1), value), value is None)

    def test_against_another_way(self):
        told = {}
        for flow, counts in cases(4):
            most, = plain_most(flow, counts)
            left = [box for box in range(flow[0]) if most[box] < counts[box]]
            short = [k for k, p in enumerate(flow[1]) if p[1] in left
                     and p[4] + p[2] * most[p[0]] - p[3] * most[p[1]] < p[3]]
            with self.subTest(flow=flow, counts=counts):
                self.assertEqual(waits(flow, counts), tuple(short))
                value = blame(flow, counts)
                if most == counts:
                    self.assertIsNone(value)
                else:
                    self.assertTrue(plainly_blamed(flow, counts, value))
                self.assertIs(shows_blame(flow, counts, value), True)
                told[value is None] = told.get(value is None, 0) + 1
        self.assertGreater(min(told[True], told[False]), 50)

    def test_values_against_another_way(self):
        draw, told = random.Random(8), {True: 0, False: 0}
        for flow, counts in cases(4):
            places = waits(flow, counts)
            if not places:
                continue
            for k in range(12):
                some = places if k < 8 else range(len(flow[1]))
                value = tuple(draw.choice(some) for _ in range(draw.randint(1, 4)))
                answer = shows_blame(flow, counts, value)
                told[answer] += 1
                with self.subTest(flow=flow, counts=counts, value=value):
                    self.assertIs(answer, plainly_blamed(flow, counts, value))
        self.assertGreater(min(told.values()), 100)


class WordTest(ErrorCase):
    def test_word_for(self):
        self.assertEqual(word_for(PAIR, (3, 2)), (0, 0, 0, 1, 1))
        self.assertEqual(word_for(RING, (3, 2)), (0, 0, 1, 0, 1))
        self.assertEqual(word_for((2, ((1, 0, 1, 1, 0),)), (2, 2)), (1, 0, 1, 0))
        self.assertIsNone(word_for(PAIR, (3, 3)))
        self.assertIsNone(word_for(STUCK, (1, 1, 1)))
        self.assertEqual(word_for(LONE, (200,)), (0,) * 200)
        self.assertEqual(len(word_for((8, ()), (200,) * 8)), 1600)

    def test_shows_word(self):
        self.assertIs(shows_word(PAIR, (3, 2), (0, 0, 0, 1, 1)), True)
        self.assertIs(shows_word(PAIR, (3, 2), (0, 1, 0, 0, 1)), True)
        self.assertIs(shows_word(PAIR, (3, 2), (1, 0, 0, 0, 1)), False)
        self.assertIs(shows_word(PAIR, (3, 2), (0, 1, 1, 0, 0)), False)
        self.assertIs(shows_word(PAIR, (3, 2), (0, 0, 0, 1)), False)
        self.assertIs(shows_word(PAIR, (3, 2), (0, 0, 0, 1, 1, 0)), False)
        self.assertIs(shows_word(PAIR, (3, 2), (0, 0, 0, 0, 1)), False)
        self.assertIs(shows_word(PAIR, (3, 2), None), False)
        self.assertIs(shows_word(PAIR, (3, 3), None), True)
        self.assertIs(shows_word(PAIR, (3, 3), (0, 0, 0, 1, 1)), False)
        self.assertIs(shows_word(PAIR, (0, 0), ()), True)
        self.assertIs(shows_word(PAIR, (0, 0), None), False)

    def test_odd_values_for_shows_word(self):
        odd = ((), [0, 1], (False, True), (0, True), (False, 1), (0, 1.0), (0, "1"), (0, (1,)), "01", {0: 0, 1: 1}, 0,
               (0, 2), (0, -1), (-2, -1), (0, 10 ** 30), ((0, 1),), ([0, 1],), (0, None), (0,) * 2001, (0, 1) * 2000)
        for value in (*STRANGE, *odd):
            self.assertIs(shows_word(PAIR, (1, 1), value), False)
            self.assertIs(shows_word(PAIR, (0, 1), value), value is None)

    def test_ways(self):
        self.assertEqual(ways(PAIR, (3, 2)), 3)
        self.assertEqual(ways(PAIR, (3, 3)), 0)
        self.assertEqual(ways(STUCK, (1, 1, 1)), 0)
        self.assertEqual(ways((2, ()), (2, 2)), 6)
        self.assertEqual(ways((8, ()), (1, 1, 1, 0, 0, 0, 1, 1)), 120)
        self.assertEqual(ways(LONE, (200,)), 1)

    def test_the_product_at_3000_and_above(self):
        self.assertEqual(ways((2, ()), (29, 99)), comb(128, 29))
        self.assertEqual(ways((3, ()), (9, 14, 19)), comb(42, 19) * comb(23, 9))
        # Each 1 behind a 0 of its own: the numbers of Catalan.
        self.assertEqual(ways((2, ((0, 1, 1, 1, 0),)), (53, 53)), comb(106, 53) // 54)
        self.assertEqual(ways((8, ()), (2, 2, 2, 2, 2, 2, 2, 0)), factorial(14) // 2 ** 7)
        for boxes, counts in ((2, (199, 15)), (2, (15, 199)), (2, (54, 54)), (3, (200, 14, 0)), (4, (10, 12, 20, 0)),
                              (8, (2,) * 8), (2, (200, 200))):
            self.assert_fields(TooMany, {"most": 3000}, ways, (boxes, ()), counts)
        self.assertEqual(ways((3, ()), (199, 14, 0)), ways((2, ()), (199, 14)))
        self.assert_fields(TooMany, {"most": 3000}, ways, (3, ()), (199, 14, 1))

    def test_it_is_too_many_even_if_there_are_none(self):
        self.assert_fields(TooMany, {"most": 3000}, ways, STUCK, (200, 200, 200))
        self.assertEqual(ways(STUCK, (29, 9, 9)), 0)

    def test_wrong_counts_come_ahead_of_too_many(self):
        self.assert_error(BadCounts, 2, ways, STUCK, (200, 200, 201))
        self.assert_error(BadCounts, None, ways, STUCK, (200, 200, 200, 200))

    def test_only_ways_are_too_many(self):
        for ask in OF_COUNTS[:-1]:
            ask(RING, (200, 200))
        shows_word(RING, (200, 200), None)
        shows_blame(RING, (200, 200), None)

    def test_against_another_way(self):
        told = {}
        for flow, counts in cases(2):
            words = plain_words(flow, counts)
            with self.subTest(flow=flow, counts=counts):
                self.assertEqual(ways(flow, counts), len(words))
                self.assertEqual(word_for(flow, counts), min(words, default=None))
                self.assertIs(shows_word(flow, counts, None), not words)
                for word in words[:20]:
                    self.assertIs(shows_word(flow, counts, word), True)
                    self.assertIs(shows_word(flow, counts, word[::-1]), word[::-1] in words)
            told[bool(words)] = told.get(bool(words), 0) + 1
        self.assertGreater(min(told[True], told[False]), 50)

    def test_the_order_of_firings_may_matter_to_words_only(self):
        for flow in (RING, SKEW, DEAD, TILTED, MIXED):
            counts = (2,) * flow[0]
            self.assertEqual(len(plain_most(flow, counts)), 1)


if __name__ == "__main__":
    unittest.main()
