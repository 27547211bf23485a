"""Points 10 and 11: room, and the least with which a flow lives."""

import functools
import itertools
import unittest

from cases import ErrorCase
from rateflows.balance import is_balanced, repetitions
from rateflows.counts import most_done
from rateflows.errors import BadCounts, BadFlow, BadRoom, NotBalanced, NotLive, TooMany
from rateflows.firing import peaks
from rateflows.flows import marks
from rateflows.live import is_live, round_word
from rateflows.room import branches, is_enough, least_room, least_rooms, most_with, own_rooms, roomed, word_room
from samples import (DEAD, DEAD_HEAVY, FLOWS, FULL_ROUND, HEAVY, LONE, MIXED, OWN, PAIR, RING, SKEW, STRANGE, TILTED,
                     WIDEST, balanced_flow, random_flow)

WITH_ROOM = (roomed, most_with, is_enough, least_rooms)
# All with a flow that lives; branches takes any.
FOR_LIVE = (own_rooms, word_room, least_room, least_rooms)
# Two pipes between the same boxes: the second one holds what the first one lacks.
TWIN = (2, ((0, 1, 2, 3, 0), (0, 1, 4, 6, 7)))


def arguments(ask, flow, room):
    """Return the arguments of a function of room, with counts where it asks for them."""
    return (flow, room, (1,) * flow[0]) if ask is most_with else (flow, room)


def plain_most_with(flow, room, counts):
    """Return the counts that can be done while each pipe has free places for what it is given, by plain firings."""
    pipes = flow[1]
    held = [p[4] for p in pipes]
    done = [0] * flow[0]
    moved = True
    while moved:
        moved = False
        for box in range(flow[0]):
            able = all(n >= p[3] for n, p in zip(held, pipes) if p[1] == box)
            free = all(n + p[2] <= most for n, p, most in zip(held, pipes, room) if p[0] == box)
            if able and free and done[box] < counts[box]:
                held = [n - p[3] * (p[1] == box) + p[2] * (p[0] == box) for n, p in zip(held, pipes)]
                done[box] += 1
                moved = True
    return tuple(done)


def plainly_enough(flow, room):
    counts = repetitions(flow)
    return plain_most_with(flow, room, counts) == counts


def plain_own_room(flow, place):
    """Return the least room of a pipe with which it lives with its boxes alone, by trying all from what it holds on."""
    one, other, give, eat, start = flow[1][place]
    alone = (1, ((0, 0, give, eat, start),)) if one == other else (2, ((0, 1, give, eat, start),))
    return next(most for most in itertools.count(start) if plainly_enough(alone, (most,)))


def live_flows(seeds, boxes, pipes, tokens=4):
    flows = [balanced_flow(seed, boxes, pipes, tokens) for seed in range(seeds)]
    return [flow for flow in flows if is_live(flow)]


class RoomTest(ErrorCase):
    def test_what_room_is(self):
        for ask in WITH_ROOM:
            for room in ((4,), (5,), (99999,)):
                if ask is not least_rooms or room != (99999,):
                    ask(*arguments(ask, PAIR, room))
            for places in (-1, 0, 100000, 10 ** 30, *STRANGE, (4,)):
                with self.subTest(ask=ask, places=places):
                    self.assert_error(BadRoom, 0, ask, *arguments(ask, PAIR, (places,)))
                    self.assert_error(BadRoom, 0, ask, *arguments(ask, RING, (places, None)))
                    self.assert_error(BadRoom, 1, ask, *arguments(ask, RING, (5, places)))

    def test_room_from_what_a_pipe_holds_on(self):
        for ask in WITH_ROOM:
            ask(*arguments(ask, RING, (1, 4)))
            self.assert_error(BadRoom, 0, ask, *arguments(ask, RING, (0, 4)))
            self.assert_error(BadRoom, 1, ask, *arguments(ask, RING, (1, 3)))
            self.assert_error(BadRoom, 0, ask, *arguments(ask, RING, (0, 3)))
            full = (2, ((0, 1, 1, 1, 99999),))
            ask(*arguments(ask, full, (99999,)))
            self.assert_error(BadRoom, 0, ask, *arguments(ask, full, (99998,)))

    def test_values_that_are_no_tuples_of_as_many_items(self):
        for ask in WITH_ROOM:
            for room in (None, 0, 5, True, "", "ab", [], [5, 5], {}, {0: 5, 1: 5}, (), (5,), (5, 5, 5), (None,) * 3):
                with self.subTest(ask=ask, room=room):
                    self.assert_error(BadRoom, None, ask, *arguments(ask, RING, room))
            self.assert_error(BadRoom, None, ask, *arguments(ask, LONE, (1,)))

    def test_roomed(self):
        self.assertEqual(roomed(PAIR, (5,)), (2, ((0, 1, 2, 3, 1), (1, 0, 3, 2, 4))))
        self.assertEqual(roomed(OWN, (3,)), (1, ((0, 0, 2, 2, 3), (0, 0, 2, 2, 0))))
        self.assertEqual(roomed(LONE, ()), LONE)
        self.assertEqual(roomed(RING, (99999, 4)), (2, RING[1] + ((1, 0, 3, 2, 99998), (0, 1, 2, 3, 0))))
        self.assertEqual(roomed((1, ((0, 0, 2, 5, 3),)), (9,)), (1, ((0, 0, 2, 5, 3), (0, 0, 5, 2, 6))))
        self.assertEqual(roomed(TILTED, (2, 3)), (2, TILTED[1] + ((1, 0, 2, 1, 2), (0, 1, 1, 1, 3))))

    def test_8_pipes_and_9(self):
        pipes = ((0, 1, 1, 1, 0),) * 8
        self.assertEqual(roomed((2, pipes), (3,) * 8), (2, pipes + ((1, 0, 1, 1, 3),) * 8))
        self.assert_fields(TooMany, {"most": 8}, roomed, (2, pipes + pipes[:1]), (3,) * 9)
        self.assert_fields(TooMany, {"most": 8}, roomed, (2, pipes * 2), (3,) * 16)
        # Wrong room comes ahead of too many pipes.
        self.assert_error(BadRoom, None, roomed, (2, pipes * 2), (3,) * 15)
        self.assert_error(BadRoom, 15, roomed, (2, pipes * 2), (3,) * 15 + (-1,))

    def test_others_take_16_pipes(self):
        flow = (2, ((0, 1, 1, 1, 0),) * 16)
        self.assertIs(is_enough(flow, (1,) * 16), True)
        self.assertIs(is_enough(flow, (1,) * 15 + (0,)), False)
        self.assertEqual(most_with(flow, (3,) * 15 + (2,), (9, 0)), (2, 0))
        self.assertEqual(least_room(flow), (16, (1,) * 16))
        self.assertEqual(least_rooms(flow, (1,) * 16), [(1,) * 16])

    def test_most_with(self):
        self.assertEqual(most_with(PAIR, (3,), (3, 2)), (2, 1))
        self.assertEqual(most_with(PAIR, (4,), (3, 2)), (3, 2))
        self.assertEqual(most_with(PAIR, (1,), (3, 2)), (0, 0))
        self.assertEqual(most_with(PAIR, (99999,), (200, 0)), (200, 0))
        self.assertEqual(most_with(PAIR, (7,), (200, 0)), (3, 0))
        self.assertEqual(most_with(LONE, (), (200,)), (200,))
        self.assertEqual(most_with(OWN, (4,), (9,)), (0,))
        self.assertEqual(most_with(OWN, (5,), (9,)), (9,))
        self.assertEqual(most_with((1, ((0, 0, 5, 2, 2),)), (7,), (9,)), (1,))
        self.assertEqual(most_with(TILTED, (9, 9), (9, 9)), (0, 0))

    def test_wrong_counts(self):
        self.assert_error(BadCounts, None, most_with, RING, (5, 5), None)
        self.assert_error(BadCounts, 1, most_with, RING, (5, 5), (0, 201))
        self.assert_error(BadCounts, 0, most_with, RING, (5, 5), (-1, 201))
        self.assert_error(BadCounts, 0, most_with, RING, (5, 5), (True, 1))
        self.assert_error(BadRoom, 0, most_with, RING, (0, 5), None)
        self.assert_error(BadFlow, None, most_with, None, (0, 5), None)

    def test_is_enough(self):
        self.assertIs(is_enough(PAIR, (4,)), True)
        self.assertIs(is_enough(PAIR, (3,)), False)
        self.assertIs(is_enough(LONE, ()), True)
        self.assertIs(is_enough(OWN, (5,)), True)
        self.assertIs(is_enough(OWN, (4,)), False)
        self.assertIs(is_enough(RING, (5, 5)), True)
        self.assertIs(is_enough(SKEW, (2, 2, 1)), False)
        self.assertIs(is_enough(SKEW, (2, 2, 2)), True)

    def test_a_flow_that_is_stuck_is_so_with_any_room(self):
        self.assertIs(is_enough(DEAD, (99999, 99999)), False)
        self.assertIs(is_enough(DEAD, (0, 2)), False)

    def test_most_with_is_most_done_with_the_further_pipes(self):
        for seed in range(200):
            flow = random_flow(seed) if seed % 2 else balanced_flow(seed)
            room = tuple(pipe[4] + (k + seed) % 7 for k, pipe in enumerate(flow[1]))
            counts = tuple((k + seed) % 5 for k in range(flow[0]))
            with self.subTest(flow=flow, room=room, counts=counts):
                self.assertEqual(most_with(flow, room, counts), plain_most_with(flow, room, counts))
                if len(flow[1]) <= 8:
                    self.assertEqual(most_with(flow, room, counts), most_done(roomed(flow, room), counts))
                if is_balanced(flow):
                    self.assertIs(is_enough(flow, room), plainly_enough(flow, room))

    def test_errors_of_the_flow(self):
        self.assert_plain_error(NotBalanced, is_enough, TILTED, None)
        self.assert_fields(TooMany, {"most": 2000}, is_enough, HEAVY, None)
        self.assert_fields(TooMany, {"most": 2000}, is_enough, DEAD_HEAVY, (999, 999, 1, 0))
        self.assert_error(BadRoom, None, is_enough, DEAD, None)
        self.assertIs(is_enough(FULL_ROUND, (999, 999, 1)), True)
        # These two are for any flow.
        self.assertEqual(roomed(HEAVY, (999, 999, 1))[0], 5)
        self.assertEqual(most_with(HEAVY, (999, 999, 1), (1,) * 5), (1,) * 5)


class LeastTest(ErrorCase):
    def test_own_rooms(self):
        self.assertEqual(own_rooms(PAIR), (4,))
        self.assertEqual(own_rooms(SKEW), (2, 2, 1))
        self.assertEqual(own_rooms(OWN), (5,))
        self.assertEqual(own_rooms(RING), (4, 4))
        self.assertEqual(own_rooms(LONE), ())
        self.assertEqual(own_rooms((2, ((0, 1, 2, 3, 99999),))), (99999,))
        self.assertEqual(own_rooms((2, ((0, 1, 4, 6, 0), (0, 1, 4, 6, 1), (0, 1, 4, 6, 7)))), (8, 9, 9))

    def test_a_pipe_from_a_box_to_itself_may_need_more_than_99999(self):
        flow = (1, ((0, 0, 2, 2, 99999),))
        self.assertEqual([own_rooms(flow), word_room(flow)], [(100001,), (100001,)])
        self.assertEqual(least_room(flow), (100001, (100001,)))
        self.assertEqual(least_rooms(flow, (99999,)), [])

    def test_own_rooms_against_another_way(self):
        for give, eat, start in itertools.product(range(1, 7), range(1, 7), range(0, 9)):
            flow = (2, ((0, 1, give, eat, start),))
            with self.subTest(flow=flow):
                self.assertEqual(own_rooms(flow), (plain_own_room(flow, 0),))
        for flow in live_flows(150, 4, 5):
            with self.subTest(flow=flow):
                self.assertEqual(own_rooms(flow), tuple(plain_own_room(flow, k) for k in range(len(flow[1]))))

    def test_branches(self):
        told = [branches(flow) for flow in (PAIR, LONE, OWN, (8, ()), RING, SKEW, TILTED, TWIN, MIXED, WIDEST, DEAD)]
        self.assertEqual(repr(told), repr([True, True, True, True, False, False, False, False, False, False, True]))
        star = tuple((k, 0, 1, 1, 0) if k % 2 else (0, k, 1, 2, 0) for k in range(1, 8))
        self.assertIs(branches((8, star)), True)
        self.assertIs(branches((8, star + ((3, 3, 1, 1, 0), (0, 0, 1, 2, 0)))), True)
        self.assertIs(branches((8, star + ((3, 4, 1, 1, 0),))), False)
        self.assertIs(branches((8, star[:-1] + ((3, 4, 1, 1, 0),))), False)
        self.assertIs(branches((8, star[:2] + ((3, 4, 1, 1, 0), (5, 4, 1, 1, 0)))), True)

    def test_branches_against_another_way(self):
        told = {True: 0, False: 0}
        for seed in range(200):
            flow = random_flow(seed) if seed % 2 else balanced_flow(seed)
            between = [{pipe[0], pipe[1]} for pipe in flow[1] if pipe[0] != pipe[1]]
            # What has but one pipe is no part of a ring; without these, nothing is left if there is none.
            pruned = True
            while pruned:
                ends = [box for pair in between for box in pair]
                rest = [pair for pair in between if all(ends.count(box) > 1 for box in pair)]
                pruned, between = len(rest) < len(between), rest
            with self.subTest(flow=flow):
                self.assertIs(branches(flow), not between)
            told[not between] += 1
        self.assertGreater(min(told.values()), 40)

    def test_word_room(self):
        self.assertEqual(word_room(PAIR), (7,))
        self.assertEqual(word_room(SKEW), (2, 2, 2))
        self.assertEqual(word_room(RING), (5, 4))
        self.assertEqual(word_room(OWN), (5,))
        self.assertEqual(word_room(LONE), ())
        for flow in live_flows(100, 4, 5):
            self.assertEqual(word_room(flow), peaks(flow, round_word(flow)))
            self.assertIs(is_enough(flow, word_room(flow)), True)

    def test_least_room(self):
        self.assertEqual(least_room(PAIR), (4, (4,)))
        self.assertEqual(least_room(SKEW), (6, (2, 2, 2)))
        self.assertEqual(least_room(RING), (9, (4, 5)))
        self.assertEqual(least_room(OWN), (5, (5,)))
        self.assertEqual(least_room(LONE), (0, ()))
        self.assertEqual(least_room(TWIN), (19, (4, 15)))

    def test_where_pipes_branch_own_rooms_are_enough(self):
        tried = 0
        for flow in live_flows(300, 4, 4):
            if branches(flow):
                tried += 1
                self.assertIs(is_enough(flow, own_rooms(flow)), True)
        self.assertGreater(tried, 50)

    def test_least_room_against_another_way(self):
        tried = 0
        for flow in live_flows(400, 4, 4, 3):
            own, most = own_rooms(flow), sum(word_room(flow))
            spare = most - sum(own)
            if (1 + spare) ** len(own) > 3000:
                self.assert_fields(TooMany, {"most": 3000}, least_room, flow)
                continue
            rooms = itertools.product(*[range(low, low + spare + 1) for low in own])
            least = min((sum(room), room) for room in rooms if sum(room) <= most and plainly_enough(flow, room))
            with self.subTest(flow=flow):
                self.assertEqual(repr(least_room(flow)), repr(least))
            tried += least[0] > sum(own)
        self.assertGreater(tried, 20)

    def test_least_rooms(self):
        self.assertEqual(least_rooms(PAIR, (9,)), [(4,)])
        self.assertEqual(least_rooms(PAIR, (4,)), [(4,)])
        self.assertEqual(least_rooms(PAIR, (3,)), [])
        self.assertEqual(least_rooms(SKEW, (3, 3, 3)), [(2, 2, 2)])
        self.assertEqual(least_rooms(SKEW, (9, 9, 1)), [])
        self.assertEqual(least_rooms(LONE, ()), [()])
        self.assertEqual(least_rooms(OWN, (9,)), [(5,)])
        self.assertEqual(least_rooms(OWN, (4,)), [])

    def test_several_least_rooms(self):
        self.assertEqual(least_rooms(RING, (5, 5)), [(4, 5), (5, 4)])
        self.assertEqual(least_rooms(RING, (4, 9)), [(4, 5)])
        self.assertEqual(least_rooms(RING, (4, 4)), [])

    def test_least_rooms_against_another_way(self):
        several = 0
        for flow in live_flows(400, 4, 5, 3):
            own = own_rooms(flow)
            if len(own) > 4:
                continue
            room = tuple(low + (2 if len(own) > 3 else 4) for low in own)
            with self.subTest(flow=flow, room=room):
                told = least_rooms(flow, room)
                self.assertEqual(repr(told), repr(plain_least_rooms(flow, room)))
                below = tuple(max(pipe[4], places - 4) for pipe, places in zip(flow[1], room))
                self.assertEqual(least_rooms(flow, below), plain_least_rooms(flow, below))
            several += len(told) > 1
        self.assertGreater(several, 5)

    def test_the_list_is_new(self):
        first = least_rooms(SKEW, (3, 3, 3))
        first.clear()
        self.assertEqual(least_rooms(SKEW, (3, 3, 3)), [(2, 2, 2)])


def plain_least_rooms(flow, room):
    """Return the list of what least_rooms should return, by trying all room, also less than own_rooms."""
    enough = functools.cache(lambda row: plainly_enough(flow, row))
    held = marks(flow)
    found = []
    for row in itertools.product(*[range(low, high + 1) for low, high in zip(held, room)]):
        less = [row[:k] + (row[k] - 1,) + row[k + 1:] for k in range(len(row)) if row[k] > held[k]]
        if enough(row) and not any(map(enough, less)):
            found.append(row)
    return found


class TooManyTest(ErrorCase):
    def test_the_product_of_least_room_at_3000_and_above(self):
        # With the rates 4 and 999 the word needs 3 * 998 more than the pipe alone, and all that the pipe holds.
        self.assertEqual(sum(word_room((2, ((0, 1, 4, 999, 5),)))) - sum(own_rooms((2, ((0, 1, 4, 999, 5),)))), 2999)
        self.assertEqual(least_room((2, ((0, 1, 4, 999, 5),))), (1002, (1002,)))
        self.assert_fields(TooMany, {"most": 3000}, least_room, (2, ((0, 1, 4, 999, 6),)))
        self.assert_fields(TooMany, {"most": 3000}, least_room, (2, ((0, 1, 5, 999, 0),)))

    def test_the_product_of_least_room_takes_the_sum_for_each_pipe(self):
        two = (4, ((0, 1, 2, 27, 1), (2, 3, 2, 27, 0)))
        self.assertEqual([word_room(two), own_rooms(two)], [(55, 54), (28, 28)])
        self.assertEqual(least_room(two), (56, (28, 28)))
        self.assert_fields(TooMany, {"most": 3000}, least_room, (4, ((0, 1, 2, 27, 1), (2, 3, 2, 27, 1))))
        beside = ((3, 4, 1, 1, 0),) * 9
        self.assertEqual(least_room((5, SKEW[1] + beside[1:])), (14, (2, 2, 2) + (1,) * 8))
        self.assert_fields(TooMany, {"most": 3000}, least_room, (5, SKEW[1] + beside))

    def test_the_product_of_least_rooms(self):
        self.assertEqual(least_rooms(PAIR, (3003,)), [(4,)])
        self.assert_fields(TooMany, {"most": 3000}, least_rooms, PAIR, (3004,))
        self.assert_fields(TooMany, {"most": 3000}, least_rooms, PAIR, (99999,))
        self.assertEqual(least_rooms(RING, (53, 63)), [(4, 5), (5, 4)])
        self.assert_fields(TooMany, {"most": 3000}, least_rooms, RING, (54, 63))
        self.assertEqual(least_rooms(SKEW, (11, 16, 20)), [(2, 2, 2)])
        self.assert_fields(TooMany, {"most": 3000}, least_rooms, SKEW, (12, 16, 20))

    def test_a_pipe_with_less_than_its_own_room_leaves_nothing_to_try(self):
        self.assertEqual(least_rooms(RING, (3, 99999)), [])
        self.assertEqual(least_rooms(RING, (1, 4)), [])
        self.assertEqual(least_rooms(SKEW, (0, 0, 99999)), [])
        self.assertEqual(least_rooms(SKEW, (99999, 99999, 0)), [])

    def test_too_many_comes_behind_wrong_room(self):
        self.assert_error(BadRoom, 1, least_rooms, RING, (99999, 3))
        self.assert_error(BadRoom, None, least_rooms, RING, (99999, 99999, 99999))

    def test_errors_of_the_flow(self):
        for ask in FOR_LIVE:
            rest = [None] if ask is least_rooms else []
            with self.subTest(ask=ask):
                self.assert_error(BadFlow, None, ask, (0, ()), *rest)
                self.assert_error(BadFlow, 0, ask, (1, (None,)), *rest)
                self.assert_plain_error(NotBalanced, ask, TILTED, *rest)
                self.assert_plain_error(NotBalanced, ask, (HEAVY[0], HEAVY[1] + ((4, 4, 1, 2, 0),)), *rest)
                self.assert_fields(TooMany, {"most": 2000}, ask, HEAVY, *rest)
                self.assert_fields(TooMany, {"most": 2000}, ask, DEAD_HEAVY, *rest)
                self.assert_plain_error(NotLive, ask, DEAD, *rest)
        self.assert_error(BadFlow, None, branches, None)
        for flow in FLOWS:
            self.assertIs(branches(flow).__class__, bool)


if __name__ == "__main__":
    unittest.main()
