"""Points 19 and 20: when firings start, rings of steps, and when rounds settle."""

import random
import unittest
from fractions import Fraction

from cases import ErrorCase
from rateflows.balance import repetitions
from rateflows.errors import BadCount, BadFlow, BadTimes, NotBalanced, NotLive, TooMany
from rateflows.joins import beside
from rateflows.live import is_live
from rateflows.speed import box_means, first_time, mean_time, settled, shows_slow_ring, slow_ring, start_times
from rateflows.unroll import firings, needs
from samples import DEAD, DEAD_HEAVY, FULL_ROUND, HEAVY, LONE, OWN, PAIR, RING, SKEW, STRANGE, TILTED, balanced_flow

ONES = (2, ((0, 1, 1, 1, 0), (1, 0, 1, 1, 1)))
OF_TIMES = (start_times, first_time, mean_time, slow_ring, shows_slow_ring, box_means, settled)
# Box 1 waits for box 0, and box 2 for box 1.
CHAIN = (3, ((0, 1, 1, 1, 0), (1, 2, 1, 1, 0)))


def arguments(ask, flow, times):
    """Return the arguments of a function, with a wrong one behind the durations where there is one that can be."""
    return (flow, times, None) if ask in (start_times, shows_slow_ring) else (flow, times)


def right_call(ask, flow, times):
    return ask(flow, times, 1) if ask is start_times else ask(*arguments(ask, flow, times))


def plain_starts(flow, times, many):
    """Return what start_times should return, by letting the time go on by one and one."""
    counts = [count * many for count in repetitions(flow)]
    held = [pipe[4] for pipe in flow[1]]
    begun = [[] for _ in counts]
    ends = [0] * flow[0]
    running = [False] * flow[0]
    time = 0
    while any(running) or any(len(row) < count for row, count in zip(begun, counts)):
        for box in range(flow[0]):
            if running[box] and ends[box] == time:
                running[box] = False
                held = [n + p[2] * (p[0] == box) for n, p in zip(held, flow[1])]
        for box in range(flow[0]):
            able = all(n >= p[3] for n, p in zip(held, flow[1]) if p[1] == box)
            if able and not running[box] and len(begun[box]) < counts[box]:
                held = [n - p[3] * (p[1] == box) for n, p in zip(held, flow[1])]
                begun[box].append(time)
                running[box] = True
                ends[box] = time + times[box]
        time += 1
    return tuple(map(tuple, begun)), max(ends)


def plain_steps(flow):
    steps = set(needs(flow))
    for box, many in enumerate(repetitions(flow)):
        steps |= {((box, k), (box, (k + 1) % many), int(k + 1 == many)) for k in range(many)}
    return steps


def simple_rings(steps):
    """Yield all rings of steps that come to each firing once, each from its least firing on."""
    behind = {}
    for step in steps:
        behind.setdefault(step[0], []).append(step)
    for first in behind:
        trails = [((step,), {first}) for step in behind[first]]
        while trails:
            trail, met = trails.pop()
            here = trail[-1][1]
            if here == first:
                yield trail
            elif here > first and here not in met:
                trails += [(trail + (step,), met | {here}) for step in behind.get(here, [])]


def plain_mean(ring, times):
    return Fraction(sum(times[first[0]] for first, _, _ in ring), sum(ago for _, _, ago in ring))


def as_ratio(fraction):
    return fraction.numerator, fraction.denominator


def plain_before(flow, box):
    """Return the set of the boxes from which pipes lead to a box, through others, too."""
    found = {box}
    for _ in range(flow[0]):
        found |= {pipe[0] for pipe in flow[1] if pipe[1] in found}
    return found


def plain_settled(flow, times):
    rows, _ = plain_starts(flow, times, 60)
    counts = repetitions(flow)
    rounds_of = [[t for row, many in zip(rows, counts) for t in row[at * many:(at + 1) * many]] for at in range(60)]
    far = max(ago for _, _, ago in plain_steps(flow))
    for rounds in range(1, 60):
        for head in range(60):
            if head + rounds + far > 60:
                break
            first = [t for row in rounds_of[head:head + far] for t in row]
            second = [t for row in rounds_of[head + rounds:head + rounds + far] for t in row]
            gaps = {late - early for early, late in zip(first, second)}
            if len(gaps) == 1:
                return head, rounds, gaps.pop()
    return None


def small_flows(seeds, most, boxes=4, pipes=5, tokens=6):
    """Return flows that live with at most so many firings a round, each with durations."""
    found = []
    for seed in range(seeds):
        flow = balanced_flow(seed, boxes, pipes, tokens)
        if is_live(flow) and len(firings(flow)) <= most:
            most_time = 9 if seed % 2 else 4
            found.append((flow, tuple(1 + (seed * 7 + 5 * box * box) % most_time for box in range(flow[0]))))
    return found


def ring_flows(many):
    """Return flows that live in which all boxes stand in a ring, each with durations."""
    draw = random.Random(34)
    found = []
    while len(found) < many:
        counts = [draw.choice((1, 1, 2)) for _ in range(draw.randint(2, 4))]
        rows = []
        for one in range(len(counts)):
            for other in ((one + 1) % len(counts), draw.randrange(len(counts))):
                by = draw.choice((1, 1, 2)) if counts[one] == counts[other] else 1
                start = draw.choice((0, 1, 2, 3))
                rows.append((one, other, by * counts[other], by * counts[one], start))
        flow = len(counts), tuple(rows)
        if is_live(flow):
            found.append((flow, tuple(draw.randint(1, 9) for _ in counts)))
    return found


class TimesTest(ErrorCase):
    def test_start_times(self):
        self.assertEqual(start_times(PAIR, (2, 5), 1), ((0, 2, 4), (2, 7)))
        self.assertEqual(start_times(PAIR, (2, 5), 2), ((0, 2, 4, 6, 8, 10), (2, 7, 12, 17)))
        self.assertEqual(start_times(PAIR, (5, 2), 2), ((0, 5, 10, 15, 20, 25), (5, 15, 20, 30)))
        self.assertEqual(start_times(LONE, (3,), 4), ((0, 3, 6, 9),))
        self.assertEqual(start_times(ONES, (3, 4), 3), ((0, 7, 14), (3, 10, 17)))
        self.assertEqual(start_times((2, ()), (1, 99), 3), ((0, 1, 2), (0, 99, 198)))
        self.assertEqual(start_times(CHAIN, (1, 2, 3), 2), ((0, 1), (1, 3), (3, 6)))

    def test_the_first_firings_start_at_0(self):
        self.assertEqual(start_times((2, ((0, 1, 1, 1, 1),)), (7, 5), 3), ((0, 7, 14), (0, 7, 14)))
        self.assertEqual(start_times((2, ((0, 1, 1, 1, 2),)), (7, 5), 3), ((0, 7, 14), (0, 5, 10)))

    def test_a_pipe_from_a_box_to_itself(self):
        for start in (1, 2, 5):
            self.assertEqual(start_times((1, ((0, 0, 1, 1, start),)), (3,), 3), ((0, 3, 6),))
        self.assertEqual(start_times(OWN, (99,), 2), ((0, 99),))

    def test_first_time(self):
        self.assertEqual(first_time(PAIR, (2, 5)), 12)
        self.assertEqual(first_time(PAIR, (5, 2)), 17)
        self.assertEqual(first_time(LONE, (99,)), 99)
        self.assertEqual(first_time((2, ()), (9, 4)), 9)
        self.assertEqual(first_time((2, ()), (4, 9)), 9)
        self.assertEqual(first_time(CHAIN, (1, 2, 3)), 6)

    def test_1_round_and_60_0_and_61(self):
        self.assertEqual(start_times(ONES, (1, 1), 60)[0], tuple(range(0, 120, 2)))
        self.assertEqual(start_times(ONES, (1, 1), 1), ((0,), (1,)))
        for many in (0, 61, -1, 10 ** 30, *STRANGE, (1,)):
            with self.subTest(many=many):
                self.assert_plain_error(BadCount, start_times, ONES, (1, 1), many)

    def test_durations(self):
        for ask in OF_TIMES:
            for times in ((1, 99), (99, 1), (50, 50)):
                right_call(ask, ONES, times)
            for time in (0, 100, -1, 10 ** 30, *STRANGE, (1,)):
                with self.subTest(ask=ask, time=time):
                    self.assert_error(BadTimes, 0, ask, *arguments(ask, ONES, (time, time)))
                    self.assert_error(BadTimes, 1, ask, *arguments(ask, ONES, (1, time)))
                    self.assert_error(BadTimes, 0, ask, *arguments(ask, ONES, (time, 1)))
            for times in (None, 0, 1, True, "", "ab", [], [1, 1], {}, {0: 1, 1: 1}, (), (1,), (1, 1, 1), (None,) * 3):
                with self.subTest(ask=ask, times=times):
                    self.assert_error(BadTimes, None, ask, *arguments(ask, ONES, times))

    def test_errors_of_the_flow(self):
        over = (2, ((0, 1, 120, 1, 0),))
        for ask in OF_TIMES:
            with self.subTest(ask=ask):
                self.assert_error(BadFlow, None, ask, *arguments(ask, (0, ()), None))
                self.assert_error(BadFlow, 0, ask, *arguments(ask, (1, (None,)), None))
                self.assert_plain_error(NotBalanced, ask, *arguments(ask, TILTED, None))
                self.assert_plain_error(NotBalanced, ask, *arguments(ask, (5, HEAVY[1] + ((4, 4, 1, 2, 0),)), None))
                self.assert_fields(TooMany, {"most": 2000}, ask, *arguments(ask, HEAVY, None))
                self.assert_fields(TooMany, {"most": 2000}, ask, *arguments(ask, DEAD_HEAVY, None))
                self.assert_plain_error(NotLive, ask, *arguments(ask, DEAD, None))
                self.assert_plain_error(NotLive, ask, *arguments(ask, (3, over[1] + ((2, 2, 1, 1, 0),)), None))
                self.assert_fields(TooMany, {"most": 120}, ask, *arguments(ask, over, None))
                self.assert_fields(TooMany, {"most": 120}, ask, *arguments(ask, FULL_ROUND, None))
                right_call(ask, (2, ((0, 1, 119, 1, 0),)), (1, 2))

    def test_the_leftmost_error(self):
        self.assert_error(BadTimes, 1, start_times, ONES, (1, 0), 0)
        self.assert_error(BadTimes, None, start_times, ONES, None, None)
        self.assert_plain_error(NotLive, start_times, DEAD, (0,), 61)

    def test_against_another_way(self):
        for flow, times in small_flows(300, 120, 5, 7) + ring_flows(60):
            with self.subTest(flow=flow, times=times):
                self.assertEqual(repr(first_time(flow, times)), repr(plain_starts(flow, times, 1)[1]))
                for many in (1, 4):
                    self.assertEqual(repr(start_times(flow, times, many)), repr(plain_starts(flow, times, many)[0]))


class MeanTest(ErrorCase):
    def assert_slow(self, flow, times, mean):
        with self.subTest(flow=flow, times=times):
            self.assertEqual(repr(mean_time(flow, times)), repr(mean))
            ring = slow_ring(flow, times)
            self.assertIs(shows_slow_ring(flow, times, ring), True)
            self.assertLessEqual(set(ring), plain_steps(flow))
            self.assertEqual([step[0] for step in ring[1:] + ring[:1]], [step[1] for step in ring])
            self.assertEqual(as_ratio(plain_mean(ring, times)), mean)

    def test_means(self):
        self.assert_slow(PAIR, (2, 5), (10, 1))
        self.assert_slow(PAIR, (5, 2), (15, 1))
        self.assert_slow(ONES, (3, 4), (7, 1))
        self.assert_slow(LONE, (99,), (99, 1))
        self.assert_slow((3, ()), (4, 9, 2), (9, 1))
        self.assert_slow(CHAIN, (3, 1, 2), (3, 1))

    def test_ratios(self):
        # Two tokens go round three boxes of 5 together, none of which takes more than half of it.
        three = (3, ((0, 1, 1, 1, 1), (1, 2, 1, 1, 1), (2, 0, 1, 1, 0)))
        self.assert_slow(three, (2, 2, 1), (5, 2))
        self.assert_slow(three, (1, 3, 1), (3, 1))
        self.assert_slow(three, (2, 2, 2), (3, 1))
        four = (4, ((0, 1, 1, 1, 1), (1, 2, 1, 1, 1), (2, 3, 1, 1, 1), (3, 0, 1, 1, 0)))
        self.assert_slow(four, (3, 3, 2, 3), (11, 3))
        # 5 by 2 is more than 7 by 3, and less than 8 by 3.
        self.assert_slow(beside(three, four), (2, 2, 1) + (2, 2, 2, 1), (5, 2))
        self.assert_slow(beside(three, four), (2, 2, 1) + (2, 2, 2, 2), (8, 3))
        for rest, mean, slow in (((2, 2, 2, 1), (7, 3), (5, 2)), ((2, 2, 2, 2), (8, 3), (8, 3))):
            self.assert_slow(beside(four, three), rest + (2, 2, 1), slow)
            self.assertEqual(box_means(beside(four, three), rest + (2, 2, 1)), (mean,) * 4 + ((5, 2),) * 3)
            joined = (7, beside(four, three)[1] + ((0, 5, 1, 1, 0),))
            self.assertEqual(box_means(joined, rest + (2, 2, 1)), (mean,) * 4 + (slow,) * 3)
        self.assert_slow(four, (3, 3, 4, 2), (4, 1))

    def test_boxes_that_fire_several_times(self):
        self.assert_slow(RING, (1, 1), (4, 1))
        self.assert_slow(RING, (1, 5), (12, 1))
        self.assert_slow((2, ((0, 1, 1, 2, 0), (1, 0, 2, 1, 2))), (3, 4), (10, 1))
        self.assert_slow((2, ((0, 1, 1, 2, 0), (1, 0, 2, 1, 3))), (3, 4), (7, 1))

    def test_shows_slow_ring(self):
        steps = (((0, 0), (1, 0), 0), ((1, 0), (0, 0), 1))
        self.assertIs(shows_slow_ring(ONES, (3, 4), steps), True)
        self.assertIs(shows_slow_ring(ONES, (3, 4), steps[::-1]), True)
        self.assertIs(shows_slow_ring(ONES, (3, 4), steps * 3), True)
        # Rings that are not slow, steps that are none, and steps that are no ring.
        for value in ((((0, 0), (0, 0), 1),), (((1, 0), (1, 0), 1),), steps[:1], steps[1:], steps + steps[:1],
                      (steps[0], steps[0]), (((0, 0), (1, 0), 1), ((1, 0), (0, 0), 0)), (((0, 0), (1, 0), 0),) * 2,
                      (((0, 0), (1, 0), 0), ((1, 0), (0, 0), 2)), steps + (((0, 0), (0, 0), 1),)):
            with self.subTest(value=value):
                self.assertIs(shows_slow_ring(ONES, (3, 4), value), False)
        self.assertIs(shows_slow_ring((2, ()), (5, 3), (((0, 0), (0, 0), 1),)), True)
        self.assertIs(shows_slow_ring((2, ()), (5, 3), (((1, 0), (1, 0), 1),)), False)
        # Each of two rings is slow, but they are not one.
        both = (((0, 0), (0, 0), 1), ((1, 0), (1, 0), 1))
        self.assertEqual([shows_slow_ring((2, ()), (5, 5), value) for value in (both[:1], both[1:], both)],
                         [True, True, False])

    def test_odd_values_for_shows_slow_ring(self):
        steps = (((0, 0), (1, 0), 0), ((1, 0), (0, 0), 1))
        odd = (*STRANGE, (), list(steps), [*steps], (list(steps[0]), steps[1]), (((0, 0), [1, 0], 0), steps[1]),
               (([0, 0], (1, 0), 0), steps[1]), (((False, 0), (1, 0), 0), steps[1]),
               (steps[0], ((1, 0), (0, False), 1)),
               (((False, 0), (1, 0), 0), ((1, 0), (False, 0), 1)),
               (((0, 0), (True, 0), 0), ((True, 0), (0, 0), 1)), (((0, 0), (1, 0), False), steps[1]),
               (steps[0], ((1, 0), (0, 0), True)), (((0, False), (1, 0), 0), ((1, 0), (0, False), 1)),
               (steps[0] + (0,), steps[1]), (steps[0][:2], steps[1]), ((0, 0), (1, 0)), (0, 1), "01",
               (((0, 0, 0), (1, 0), 0), steps[1]), (((0,), (1,), 0), ((1,), (0,), 1)), steps + (None,), (None, None),
               (((0, 0), (1, 0), None), steps[1]), (((0, 0), ({}, 0), 0), steps[1]), (((0, 0), (1, "0"), 0), steps[1]))
        for value in odd:
            with self.subTest(value=value):
                self.assertIs(shows_slow_ring(ONES, (3, 4), value), False)

    def test_several_rings_with_the_greatest_mean(self):
        slow = (((0, 0), (1, 0), 0), ((1, 0), (0, 0), 1))
        tied = (4, ONES[1] + ((2, 3, 1, 1, 0), (3, 2, 1, 1, 1)))
        self.assert_slow(tied, (3, 4, 5, 2), (7, 1))
        self.assertIs(shows_slow_ring(tied, (3, 4, 5, 2), slow), True)
        other = (((2, 0), (3, 0), 0), ((3, 0), (2, 0), 1))
        self.assertIs(shows_slow_ring(tied, (3, 4, 5, 2), other), True)
        self.assertIs(shows_slow_ring(tied, (3, 4, 5, 2), slow + other), False)
        self.assertIs(shows_slow_ring(tied, (3, 4, 5, 1), other), False)

    def test_against_all_rings(self):
        for flow, times in small_flows(300, 9, 4, 5) + ring_flows(100):
            rings = list(simple_rings(plain_steps(flow)))
            mean = max(plain_mean(ring, times) for ring in rings)
            self.assert_slow(flow, times, as_ratio(mean))
            means = []
            for box in range(flow[0]):
                before = plain_before(flow, box)
                inner = [ring for ring in rings if all(step[0][0] in before for step in ring)]
                means.append(as_ratio(max(plain_mean(ring, times) for ring in inner)))
            self.assertEqual(repr(box_means(flow, times)), repr(tuple(means)))
            for ring in rings[::max(1, len(rings) // 20)]:
                self.assertIs(shows_slow_ring(flow, times, ring), plain_mean(ring, times) == mean)
                self.assertIs(shows_slow_ring(flow, times, ring[1:] + ring[:1]), plain_mean(ring, times) == mean)

    def test_the_mean_time_of_a_round_comes_to_it(self):
        tried = 0
        for flow, times in small_flows(300, 40, 5, 8) + ring_flows(200):
            told = settled(flow, times)
            if told is not None:
                mean = as_ratio(Fraction(told[2], told[1]))
                self.assertEqual(mean_time(flow, times), mean)
                self.assertEqual(box_means(flow, times), (mean,) * flow[0])
                tried += told[1] > 1
        self.assertGreater(tried, 5)


class BoxMeansTest(ErrorCase):
    def test_box_means(self):
        self.assertEqual(box_means(PAIR, (2, 5)), ((6, 1), (10, 1)))
        self.assertEqual(box_means(PAIR, (5, 2)), ((15, 1), (15, 1)))
        self.assertEqual(box_means(ONES, (3, 4)), ((7, 1), (7, 1)))
        self.assertEqual(box_means(LONE, (3,)), ((3, 1),))

    def test_boxes_to_which_no_pipe_leads(self):
        self.assertEqual(box_means((3, ()), (4, 9, 2)), ((4, 1), (9, 1), (2, 1)))
        self.assertEqual(box_means((3, ((1, 2, 1, 1, 0),)), (4, 9, 2)), ((4, 1), (9, 1), (9, 1)))

    def test_pipes_that_lead_through_other_boxes(self):
        self.assertEqual(box_means(CHAIN, (5, 1, 2)), ((5, 1),) * 3)
        self.assertEqual(box_means(CHAIN, (1, 5, 2)), ((1, 1), (5, 1), (5, 1)))
        self.assertEqual(box_means(CHAIN, (1, 2, 5)), ((1, 1), (2, 1), (5, 1)))
        flow = (4, ((3, 2, 1, 1, 0), (2, 1, 1, 1, 0), (1, 2, 1, 1, 2), (1, 0, 1, 1, 0)))
        self.assertEqual(box_means(flow, (1, 3, 4, 2)), ((4, 1), (4, 1), (4, 1), (2, 1)))
        self.assertEqual(box_means(flow, (9, 3, 4, 2)), ((9, 1), (4, 1), (4, 1), (2, 1)))
        self.assertEqual(box_means((4, flow[1][:2] + ((1, 2, 1, 1, 1),) + flow[1][3:]), (1, 3, 4, 2)),
                         ((7, 1), (7, 1), (7, 1), (2, 1)))


class SettledTest(ErrorCase):
    def test_at_once(self):
        self.assertEqual(settled(ONES, (3, 4)), (0, 1, 7))
        self.assertEqual(settled(PAIR, (5, 3)), (0, 1, 15))
        self.assertEqual(settled(LONE, (4,)), (0, 1, 4))
        self.assertEqual(settled((2, ()), (4, 4)), (0, 1, 4))

    def test_later(self):
        # What the first pipe holds lets box 1 run ahead at first.
        told = [settled((2, ((0, 1, 1, 1, start),)), (5, 4)) for start in range(1, 11)]
        self.assertEqual(told, [(5 * start, 1, 5) for start in range(10)])
        # The next one has its head in the round 50, and 11 rounds from there on are not within 60 with one more.
        self.assertIs(settled((2, ((0, 1, 1, 1, 11),)), (5, 4)), None)

    def test_several_rounds(self):
        three = (3, ((0, 1, 1, 1, 1), (1, 2, 1, 1, 1), (2, 0, 1, 1, 0)))
        self.assertEqual(settled(three, (2, 2, 1)), (0, 2, 5))

    def test_not_within_60_rounds(self):
        self.assertIs(settled(PAIR, (2, 5)), None)
        self.assertIs(settled((2, ()), (4, 5)), None)
        # Box 1 catches up by 1 in each round.
        self.assertIs(settled((2, ((0, 1, 1, 1, 30),)), (99, 98)), None)

    def test_the_greatest_number_of_rounds_of_a_step(self):
        # As the time is the same for both boxes, all rounds are alike: those that have to be must be within 60.
        for start in (1, 2, 30, 58, 59):
            self.assertEqual(settled((2, ((0, 1, 1, 1, start),)), (3, 3)), (0, 1, 3))
        for start in (60, 61, 99999):
            self.assertIs(settled((2, ((0, 1, 1, 1, start),)), (3, 3)), None)

    def test_the_last_head_within_60_rounds(self):
        told = {settled((2, ((0, 1, 1, 1, 2),)), (time, time - 1)) for time in range(2, 99)}
        self.assertIn(None, told)
        heads = sorted(row[0] for row in told if row)
        self.assertEqual(heads, list(range(heads[0], 58)))

    def test_against_another_way(self):
        told = {"none": 0, "later": 0, "several": 0}
        for flow, times in small_flows(300, 25, 5, 8) + ring_flows(200):
            with self.subTest(flow=flow, times=times):
                expected = plain_settled(flow, times)
                self.assertEqual(repr(settled(flow, times)), repr(expected))
            told["none"] += expected is None
            told["later"] += bool(expected and expected[0])
            told["several"] += bool(expected and expected[1] > 1)
        self.assertGreater(min(told.values()), 5)


if __name__ == "__main__":
    unittest.main()
