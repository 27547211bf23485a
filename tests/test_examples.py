"""The examples that stand in the interface."""

import unittest

from rateflows.balance import is_balanced, repetitions, shows_tilt, tilt
from rateflows.counts import blame, can_do, ends, most_done, shows_word, waits, ways, word_for
from rateflows.errors import BadCode, BadFlow, BadWord, InvalidText, NotBalanced
from rateflows.firing import fireable, fired, lacking, line, peaks, run
from rateflows.flows import into, is_tied, knots, marks, out_of, parts, turned, with_marks
from rateflows.flowtext import read_flow, write_flow
from rateflows.joins import beside, least_form, renamed, without_pipe
from rateflows.live import endless, is_live, most_ever, round_word
from rateflows.loops import (appearances, depth, fold_size, folded, is_schedule, loop_room, shows_fold, unrolled,
                             write_loop)
from rateflows.looptext import read_loop
from rateflows.machine import code_of, done_steps, fixed_room, fixed_steps, loop_of, trace
from rateflows.reach import all_come, comes, counts_to
from rateflows.room import branches, is_enough, least_room, least_rooms, most_with, own_rooms, roomed, word_room
from rateflows.sets import all_safe, as_one, is_safe, set_round, set_shares, unfolded, within
from rateflows.single import forward_orders, has_single, least_nest, shows_single, single
from rateflows.speed import box_means, first_time, mean_time, settled, shows_slow_ring, start_times
from rateflows.unroll import firings, needs


class ExamplesTest(unittest.TestCase):
    def test_flows(self):
        ring = (2, ((0, 1, 2, 3, 1), (1, 0, 3, 2, 4)))
        answers = [into(ring, 1), out_of(ring, 1), parts((3, ((0, 2, 1, 1, 0),))), knots(ring), is_tied(ring),
                   marks(ring), with_marks((2, ((0, 1, 2, 3, 1),)), (7,)), turned((2, ((0, 1, 2, 3, 1),)))]
        told = [(0,), (1,), ((0, 2), (1,)), ((0, 1),), True, (1, 4), (2, ((0, 1, 2, 3, 7),)), (2, ((1, 0, 3, 2, 1),))]
        self.assertEqual(repr(answers), repr(told))

    def test_flows_error(self):
        with self.assertRaises(BadFlow) as caught:
            parts((2, ((0, 1, 1, 1, 0), (0, 2, 1, 1, 0))))
        self.assertEqual(caught.exception.index, 1)

    def test_firing(self):
        pair = (2, ((0, 1, 2, 3, 1),))
        answers = [fireable(pair), lacking(pair, 1), fired(pair, 0), run(pair, (0, 1)), line(pair, (0, 1)),
                   peaks(pair, (0, 1)), peaks((1, ((0, 0, 2, 2, 3),)), (0,))]
        told = [(0,), (0,), (2, ((0, 1, 2, 3, 3),)), (2, ((0, 1, 2, 3, 0),)), ((1,), (3,), (0,)), (3,), (5,)]
        self.assertEqual(repr(answers), repr(told))

    def test_firing_error(self):
        with self.assertRaises(BadWord) as caught:
            run((2, ((0, 1, 2, 3, 1),)), (0, 1, 1))
        self.assertEqual(caught.exception.index, 2)

    def test_flowtext(self):
        ring = (2, ((0, 1, 2, 3, 1), (1, 0, 3, 2, 4)))
        answers = [write_flow(ring), read_flow(" 1  0*2>3>2*0 ")]
        self.assertEqual(repr(answers), repr(["2 0*2>1>3*1 1*3>4>2*0", (1, ((0, 0, 2, 2, 3),))]))

    def test_flowtext_error(self):
        with self.assertRaises(InvalidText) as caught:
            read_flow("2 0*2>1>3*2")
        self.assertEqual(caught.exception.place, 10)

    def test_balance(self):
        tilted = (2, ((0, 1, 1, 2, 0), (1, 0, 1, 1, 0)))
        answers = [repetitions((2, ((0, 1, 2, 3, 1),))), repetitions((3, ((0, 1, 4, 6, 0),))), is_balanced(tilted),
                   shows_tilt(tilted, ((0, True), (1, True))), shows_tilt(tilted, ((0, True), (0, False))),
                   tilt((2, ((0, 1, 2, 3, 1),)))]
        self.assertEqual(repr(answers), repr([(3, 2), (3, 2, 1), False, True, False, None]))

    def test_balance_error(self):
        with self.assertRaises(NotBalanced):
            repetitions((2, ((0, 1, 1, 2, 0), (1, 0, 1, 1, 0))))

    def test_counts(self):
        pair = (2, ((0, 1, 2, 3, 1),))
        answers = [ends(pair, (1, 2)), can_do(pair, (1, 1)), can_do(pair, (1, 2)), most_done(pair, (1, 2)),
                   waits(pair, (1, 2)), blame(pair, (1, 2)), word_for(pair, (3, 2)), ways(pair, (3, 2)),
                   shows_word(pair, (3, 2), (0, 1, 0, 0, 1))]
        self.assertEqual(repr(answers), repr([(-3,), True, False, (1, 1), (0,), (0,), (0, 0, 0, 1, 1), 3, True]))

    def test_live(self):
        ring, dead = (2, ((0, 1, 2, 3, 1), (1, 0, 3, 2, 4))), (3, ((1, 1, 1, 1, 0), (1, 2, 1, 1, 2)))
        answers = [is_live(ring), round_word(ring), is_live(dead), endless(dead), most_ever(dead)]
        self.assertEqual(repr(answers), repr([True, (0, 0, 1, 0, 1), False, (0,), (None, 0, 2)]))

    def test_reach(self):
        ring = (2, ((0, 1, 2, 3, 1), (1, 0, 3, 2, 4)))
        answers = [counts_to(ring, (0, 5)), counts_to(ring, (2, 4)), comes((2, ((0, 1, 2, 3, 1),)), (0,)),
                   all_come(ring)]
        told = [(1, 1), None, True, [(0, 5), (1, 4), (2, 3), (3, 2), (4, 1), (5, 0)]]
        self.assertEqual(repr(answers), repr(told))

    def test_room(self):
        pair, skew = (2, ((0, 1, 2, 3, 1),)), (3, ((0, 1, 1, 2, 0), (1, 2, 2, 1, 0), (0, 2, 1, 1, 0)))
        answers = [roomed(pair, (5,)), most_with(pair, (3,), (3, 2)), is_enough(pair, (4,)), own_rooms(pair),
                   word_room(pair), least_room(pair), own_rooms(skew), branches(skew), least_room(skew),
                   least_rooms(skew, (3, 3, 3))]
        told = [(2, ((0, 1, 2, 3, 1), (1, 0, 3, 2, 4))), (2, 1), True, (4,), (7,), (4, (4,)), (2, 2, 1), False,
                (6, (2, 2, 2)), [(2, 2, 2)]]
        self.assertEqual(repr(answers), repr(told))

    def test_loops(self):
        loop, pair = (0, (3, (1, (2, (2,))))), (2, ((0, 1, 2, 3, 1),))
        answers = [unrolled(loop), appearances(loop), depth(loop), write_loop(loop),
                   is_schedule(pair, ((3, (0,)), (2, (1,)))), loop_room(pair, ((3, (0,)), (2, (1,)))),
                   fold_size((0, 0, 1, 0, 0, 1)), folded((0, 0, 0)), shows_fold((0, 1, 0, 1), ((2, (0, 1)),))]
        told = [(0, 1, 2, 2, 1, 2, 2, 1, 2, 2), (0, 1, 2), 2, "0 (3 1 (2 2))", True, (7,), 2, ((3, (0,)),), True]
        self.assertEqual(repr(answers), repr(told))

    def test_looptext(self):
        self.assertEqual(repr(read_loop(" 0 (3 1  (2 2) ) ")), repr((0, (3, (1, (2, (2,)))))))

    def test_looptext_error(self):
        with self.assertRaises(InvalidText) as caught:
            read_loop("0 (1 2)")
        self.assertEqual(caught.exception.place, 3)

    def test_single(self):
        line = (3, ((0, 1, 1, 2, 0), (1, 2, 1, 2, 0)))
        answers = [single((2, ((0, 1, 2, 3, 1),))), has_single(line), forward_orders(line),
                   least_nest(line, (0, 1, 2)), shows_single(line, ((4, (0,)), (2, (1,)), 2)),
                   single((2, ((0, 1, 2, 3, 1), (1, 0, 3, 2, 4))))]
        told = [((3, (0,)), (2, (1,))), True, [(0, 1, 2)], (4, ((2, ((2, (0,)), 1)), 2)), True, None]
        self.assertEqual(repr(answers), repr(told))

    def test_sets(self):
        line = (3, ((0, 1, 1, 2, 0), (1, 2, 1, 2, 0)))
        answers = [set_shares(line, (0, 1)), as_one(line, (0, 1)), as_one(line, (0, 2)), within(line, (0, 1)),
                   is_safe(line, (0, 2)), all_safe(line), unfolded(line, (0, 1), (0, 0, 1)), set_round(line, (1, 2))]
        told = [(2, 1, 0), (2, ((0, 1, 1, 2, 0),)), (2, ((0, 1, 4, 2, 0), (1, 0, 1, 2, 0))), (2, ((0, 1, 1, 2, 0),)),
                False, [(0,), (0, 1), (0, 1, 2), (1,), (1, 2), (2,)], (0, 0, 1, 0, 0, 1, 2), (0, 0, 0, 0, 1, 1, 2)]
        self.assertEqual(repr(answers), repr(told))

    def test_unroll(self):
        pair = (2, ((0, 1, 2, 3, 1),))
        answers = [firings(pair), needs(pair), needs((2, ((0, 1, 1, 1, 0), (1, 0, 1, 1, 1))))]
        told = [((0, 0), (0, 1), (0, 2), (1, 0), (1, 1)), (((0, 0), (1, 0), 0), ((0, 2), (1, 1), 0)),
                (((0, 0), (1, 0), 0), ((1, 0), (0, 0), 1))]
        self.assertEqual(repr(answers), repr(told))

    def test_speed(self):
        pair, ring = (2, ((0, 1, 2, 3, 1),)), (2, ((0, 1, 1, 1, 0), (1, 0, 1, 1, 1)))
        answers = [start_times(pair, (2, 5), 1), first_time(pair, (2, 5)), mean_time(pair, (2, 5)),
                   box_means(pair, (2, 5)), mean_time(ring, (3, 4)), settled(ring, (3, 4)), settled(pair, (5, 3)),
                   shows_slow_ring(ring, (3, 4), (((0, 0), (1, 0), 0), ((1, 0), (0, 0), 1)))]
        told = [((0, 2, 4), (2, 7)), 12, (10, 1), ((6, 1), (10, 1)), (7, 1), (0, 1, 7), (0, 1, 15), True]
        self.assertEqual(repr(answers), repr(told))

    def test_machine(self):
        line = (2, ((0, 1, 1, 2, 0),))
        answers = [code_of((0, (2, (1,)))), loop_of((("repeat", 2), ("fire", 0), ("again",))),
                   done_steps(code_of((0, (2, (1,))))), trace((2, ((0, 1, 2, 3, 1),)), code_of((0, 1)), (4,)),
                   fixed_steps(line, ((2, (0,)), 1), (2,)), fixed_room(line, (0, 0, 1))]
        told = [(("fire", 0), ("repeat", 2), ("fire", 1), ("again",)), ((2, (0,)),), (0, 2, 2),
                ((0, (), ((0, 1),)), (1, ((0, 0),), ())), (False, True), (2,)]
        self.assertEqual(repr(answers), repr(told))

    def test_machine_error(self):
        with self.assertRaises(BadCode) as caught:
            loop_of((("repeat", 2), ("fire", 0)))
        self.assertEqual(caught.exception.index, 2)

    def test_joins(self):
        pair = (2, ((0, 1, 2, 3, 1),))
        answers = [renamed(pair, (1, 0)), least_form(renamed(pair, (1, 0))), beside((1, ()), pair),
                   without_pipe(pair, 0)]
        told = [(2, ((1, 0, 2, 3, 1),)), (2, ((0, 1, 2, 3, 1),)), (3, ((1, 2, 2, 3, 1),)), (2, ())]
        self.assertEqual(repr(answers), repr(told))


if __name__ == "__main__":
    unittest.main()
