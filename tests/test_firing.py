"""Point 3: firings, words, and the room that they need."""

import random
import unittest

from cases import ErrorCase
from rateflows.errors import BadBox, BadFiring, BadFlow, BadWord
from rateflows.firing import fireable, fired, lacking, line, peaks, run
from rateflows.flows import marks, with_marks
from samples import FLOWS, LONE, MIXED, OWN, PAIR, RING, STRANGE, WIDEST, random_flow

OF_WORDS = (run, line, peaks)


def plainly_fired(flow, box):
    """Return the flow behind a firing and the tokens between its laying and its eating, None if it can't be done."""
    behind, between = [], []
    for one, other, give, eat, start in flow[1]:
        if other == box and start < eat:
            return None
        laid = start + give * (one == box)
        between.append(laid)
        behind.append((one, other, give, eat, laid - eat * (other == box)))
    return (flow[0], tuple(behind)), between


def random_word(flow, seed):
    """Return a word of at most 30 boxes whose firings can be done one behind another, by plainly_fired alone."""
    draw, word = random.Random(seed), []
    for _ in range(30):
        able = [box for box in range(flow[0]) if plainly_fired(flow, box)]
        if not able:
            break
        word.append(draw.choice(able))
        flow = plainly_fired(flow, word[-1])[0]
    return tuple(word)


def plain_line(flow, word):
    flows = [flow]
    for box in word:
        flows.append(plainly_fired(flows[-1], box)[0])
    return tuple(tuple(pipe[4] for pipe in each[1]) for each in flows)


def plain_peaks(flow, word):
    rows = list(plain_line(flow, word))
    for box in word:
        flow, between = plainly_fired(flow, box)
        rows.append([held if pipe[0] == pipe[1] else 0 for held, pipe in zip(between, flow[1])])
    return tuple(max(row[k] for row in rows) for k in range(len(flow[1])))


class FiringTest(ErrorCase):
    def test_fireable(self):
        self.assertEqual(fireable(LONE), (0,))
        self.assertEqual(fireable((8, ())), tuple(range(8)))
        self.assertEqual(fireable(RING), (0,))
        self.assertEqual(fireable(MIXED), (0, 2, 3, 4))
        self.assertEqual(fireable((1, ((0, 0, 1, 4, 3),))), ())

    def test_a_box_needs_no_more_than_it_eats(self):
        self.assertEqual(fireable((2, ((0, 1, 2, 3, 2),))), (0,))
        self.assertEqual(fireable((2, ((0, 1, 2, 3, 3),))), (0, 1))
        self.assertEqual(fireable((2, ((0, 1, 1, 999, 998),))), (0,))
        self.assertEqual(fireable((2, ((0, 1, 1, 999, 999),))), (0, 1))

    def test_a_box_that_gives_to_itself_eats_first(self):
        self.assertEqual(fireable((1, ((0, 0, 5, 5, 4),))), ())
        self.assertEqual(lacking((1, ((0, 0, 5, 5, 4),)), 0), (0,))
        self.assert_plain_error(BadFiring, fired, (1, ((0, 0, 5, 5, 4),)), 0)
        self.assertEqual(fired((1, ((0, 0, 5, 5, 5),)), 0), (1, ((0, 0, 5, 5, 5),)))

    def test_lacking(self):
        self.assertEqual([lacking(MIXED, box) for box in range(5)], [(), (0,), (), (), ()])
        many = (2, ((0, 1, 1, 3, 2), (0, 1, 1, 3, 3), (1, 0, 1, 9, 0), (1, 1, 1, 2, 1), (0, 1, 1, 1, 0)))
        self.assertEqual([lacking(many, 0), lacking(many, 1)], [(2,), (0, 3, 4)])

    def test_fired(self):
        self.assertEqual(fired(PAIR, 0), (2, ((0, 1, 2, 3, 3),)))
        self.assertEqual(fired((2, ((0, 1, 2, 3, 3),)), 1), (2, ((0, 1, 2, 3, 0),)))
        self.assertEqual(fired((1, ((0, 0, 2, 5, 7),)), 0), (1, ((0, 0, 2, 5, 4),)))
        self.assertEqual(fired(LONE, 0), LONE)
        self.assertEqual(marks(fired(RING, 0)), (3, 2))
        self.assertEqual(marks(fired(MIXED, 0)), (1, 7, 1, 4, 99999))
        self.assertEqual(marks(fired(MIXED, 2)), (0, 5, 2, 1, 99999))

    def test_firings_that_cannot_be_done(self):
        self.assert_plain_error(BadFiring, fired, PAIR, 1)
        self.assert_plain_error(BadFiring, fired, RING, 1)
        self.assert_plain_error(BadFiring, fired, MIXED, 1)

    def test_more_than_99999_tokens_behind_a_firing(self):
        able = with_marks(MIXED, (4, 5, 2, 4, 99999))
        self.assertEqual([pipe[4] for pipe in fired(able, 1)[1]], [2, 1, 5, 4, 100998])
        full = (2, ((0, 1, 999, 1, 99999),))
        self.assertEqual(fired(full, 0), (2, ((0, 1, 999, 1, 100998),)))
        self.assertEqual(run(full, (0, 0)), (2, ((0, 1, 999, 1, 101997),)))
        self.assertEqual(run(full, (0, 0, 1)), (2, ((0, 1, 999, 1, 101996),)))
        self.assertEqual(line(full, (0, 1)), ((99999,), (100998,), (100997,)))
        self.assertEqual(peaks(full, (0, 0, 1)), (101997,))
        self.assertEqual(peaks((1, ((0, 0, 999, 999, 99999),)), (0,)), (100998,))

    def test_a_flow_that_holds_more_than_99999_tokens_may_not_be_passed(self):
        self.assert_error(BadFlow, 0, fireable, fired((2, ((0, 1, 999, 1, 99999),)), 0))

    def test_bad_boxes(self):
        for ask in (lacking, fired):
            for box in (*STRANGE, -1, 2, 8, 10 ** 30, (0,), (1,)):
                with self.subTest(ask=ask, box=box):
                    self.assert_plain_error(BadBox, ask, RING, box)
            self.assert_plain_error(BadBox, ask, LONE, 1)

    def test_against_another_way(self):
        for flow in (*FLOWS, *map(random_flow, range(200))):
            able = [box for box in range(flow[0]) if plainly_fired(flow, box)]
            self.assertEqual(fireable(flow), tuple(able))
            for box in range(flow[0]):
                with self.subTest(flow=flow, box=box):
                    short = [k for k, pipe in enumerate(flow[1]) if pipe[1] == box and pipe[4] < pipe[3]]
                    self.assertEqual(lacking(flow, box), tuple(short))
                    if box in able:
                        self.assertEqual(fired(flow, box), plainly_fired(flow, box)[0])
                    else:
                        self.assert_plain_error(BadFiring, fired, flow, box)


class WordTest(ErrorCase):
    def test_the_empty_word(self):
        for flow in FLOWS:
            self.assertEqual(run(flow, ()), flow)
            self.assertEqual(line(flow, ()), (marks(flow),))
            self.assertEqual(peaks(flow, ()), marks(flow))

    def test_run_and_line(self):
        word = (0, 0, 1, 0, 1)
        self.assertEqual(run(RING, word), RING)
        self.assertEqual(line(RING, word), ((1, 4), (3, 2), (5, 0), (2, 3), (4, 1), (1, 4)))
        self.assertEqual(line(LONE, (0, 0)), ((), (), ()))

    def test_peaks(self):
        self.assertEqual(peaks(RING, (0, 0, 1, 0, 1)), (5, 4))
        self.assertEqual(peaks(PAIR, (0, 1)), (3,))
        self.assertEqual(peaks(PAIR, (0, 0, 0, 1, 1)), (7,))
        self.assertEqual(peaks((2, ((0, 1, 2, 3, 9),)), (1, 0)), (9,))
        self.assertEqual(peaks(LONE, (0, 0)), ())

    def test_peaks_of_a_pipe_from_a_box_to_itself(self):
        self.assertEqual(peaks(OWN, (0,)), (5,))
        self.assertEqual(peaks((1, ((0, 0, 3, 1, 1),)), (0, 0)), (6,))
        self.assertEqual(peaks((1, ((0, 0, 1, 3, 9),)), (0, 0)), (10,))
        two = (2, ((0, 0, 2, 2, 3), (1, 0, 1, 1, 1)))
        self.assertEqual(peaks(two, (1, 1)), (3, 3))
        self.assertEqual(peaks(two, (1, 0, 1)), (5, 2))
        self.assertEqual(peaks((2, ((0, 0, 2, 1, 3),)), (1, 0, 1)), (5,))

    def test_words_of_2000_and_2001_boxes(self):
        for ask in OF_WORDS:
            ask(RING, (0, 0, 1, 0, 1) * 400)
            self.assert_error(BadWord, None, ask, RING, (0, 0, 1, 0, 1) * 400 + (0,))
            self.assert_error(BadWord, None, ask, RING, (1,) * 2001)
        self.assertEqual(run((2, ((0, 1, 999, 1, 0),)), (0,) * 2000), (2, ((0, 1, 999, 1, 1998000),)))
        self.assertEqual(len(line(LONE, (0,) * 2000)), 2001)
        self.assertEqual(peaks((2, ((0, 1, 999, 1, 0),)), (0,) * 2000), (1998000,))

    def test_the_first_firing_that_cannot_be_done(self):
        for ask in OF_WORDS:
            self.assert_error(BadWord, 0, ask, RING, (1,))
            self.assert_error(BadWord, 2, ask, RING, (0, 0, 0, 1, 1))
            self.assert_error(BadWord, 2, ask, PAIR, (0, 1, 1, 0, 1))
            self.assert_error(BadWord, 1999, ask, RING, (0, 0, 1, 0, 1) * 399 + (0, 0, 1, 0, 0))

    def test_values_that_are_no_words(self):
        wrong = (None, 0, 1, True, "", "0", "00", [], [0], {}, {0: 0})
        for ask in OF_WORDS:
            for word in wrong:
                with self.subTest(ask=ask, word=word):
                    self.assert_error(BadWord, None, ask, RING, word)

    def test_items_that_are_no_boxes(self):
        for ask in OF_WORDS:
            for item in (*STRANGE, -1, 2, 8, 10 ** 30, (0,)):
                with self.subTest(ask=ask, item=item):
                    self.assert_error(BadWord, None, ask, RING, (item,))
                    self.assert_error(BadWord, None, ask, RING, (0, 0, 1, item))
            self.assert_error(BadWord, None, ask, LONE, (1,))

    def test_an_item_that_is_no_box_comes_ahead_of_a_firing_that_cannot_be_done(self):
        for ask in OF_WORDS:
            self.assert_error(BadWord, None, ask, RING, (1, 1, 2))
            self.assert_error(BadWord, None, ask, RING, (1, True))

    def test_against_another_way(self):
        for seed, flow in enumerate((*FLOWS, *map(random_flow, range(300)))):
            word = random_word(flow, seed)
            rows = plain_line(flow, word)
            with self.subTest(flow=flow, word=word):
                self.assertEqual(line(flow, word), rows)
                self.assertEqual(run(flow, word), (flow[0], tuple(p[:4] + (n,) for p, n in zip(flow[1], rows[-1]))))
                self.assertEqual(peaks(flow, word), plain_peaks(flow, word))
                for box in range(flow[0]):
                    if box not in fireable(with_marks(flow, rows[-1])):
                        for ask in OF_WORDS:
                            self.assert_error(BadWord, len(word), ask, flow, word + (box, box))


if __name__ == "__main__":
    unittest.main()
