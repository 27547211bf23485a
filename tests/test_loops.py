"""Points 12, 13 and 14: looped code, its text, and words that are folded by it."""

import functools
import random
import unittest

from cases import ErrorCase
from rateflows.balance import repetitions
from rateflows.errors import BadFlow, BadLoop, BadWord, NotBalanced, TooMany
from rateflows.firing import peaks
from rateflows.live import is_live, round_word
from rateflows.loops import (appearances, depth, fold_size, folded, is_schedule, loop_room, shows_fold, unrolled,
                             write_loop)
from samples import DEAD, FULL_ROUND, HEAVY, LONE, MIXED, OWN, PAIR, RING, SKEW, STRANGE, TILTED, balanced_flow

OF_LOOPS = (unrolled, appearances, depth, write_loop)
LOOP = (0, (3, (1, (2, (2,)))))


def nested(deep, times=2):
    """Return looped code with stretches so deep."""
    loop = (5,)
    for _ in range(deep):
        loop = ((times, loop),)
    return loop


def random_loop(draw, deep=3):
    """Return looped code that says a short word."""
    items = []
    for _ in range(draw.randint(1, 3)):
        stretch = deep and draw.random() < 0.4
        items.append((draw.randint(2, 3), random_loop(draw, deep - 1)) if stretch else draw.randrange(8))
    return tuple(items)


def plain_word(loop):
    return sum((plain_word(item[1]) * item[0] if isinstance(item, tuple) else (item,) for item in loop), ())


@functools.cache
def all_codes(word):
    """Return the set of all looped code that says a word."""
    found = set() if word else {()}
    for end in range(1, len(word) + 1):
        first, rest = word[:end], all_codes(word[end:])
        items = {first[0]} if end == 1 else set()
        for times in range(2, end + 1):
            if end % times == 0 and first[:end // times] * times == first:
                items |= {(times, body) for body in all_codes(first[:end // times])}
        found |= {(item,) + others for item in items for others in rest}
    return found


class LoopTest(ErrorCase):
    def assert_bad(self, loop):
        with self.subTest(loop=loop):
            for ask in OF_LOOPS:
                self.assert_plain_error(BadLoop, ask, loop)
            self.assert_plain_error(BadLoop, is_schedule, PAIR, loop)
            self.assert_plain_error(BadLoop, loop_room, PAIR, loop)

    def test_looped_code(self):
        self.assertEqual(unrolled(LOOP), (0, 1, 2, 2, 1, 2, 2, 1, 2, 2))
        self.assertEqual(appearances(LOOP), (0, 1, 2))
        self.assertEqual(depth(LOOP), 2)
        self.assertEqual(unrolled(((2, (0, (2, (1,)), 0)), 1)), (0, 1, 1, 0, 0, 1, 1, 0, 1))
        self.assertEqual(appearances(((2, (0, (2, (1,)), 0)), 1)), (0, 1, 0, 1))
        self.assertEqual(depth(((2, (0, (2, (1,)), 0)), 1)), 2)
        self.assertEqual(depth(((2, (1,)), (2, ((3, (1,)), (2, (4,)))), 3)), 2)
        self.assertEqual(unrolled((7, 7, 0)), (7, 7, 0))
        self.assertEqual(depth((7, 7, 0)), 0)

    def test_no_items(self):
        self.assertEqual([unrolled(()), appearances(()), depth(()), write_loop(())], [(), (), 0, ""])

    def test_boxes(self):
        for box in range(8):
            self.assertEqual(unrolled((box, (2, (box,)))), (box,) * 3)
        for box in (-1, 8, 9, 10 ** 30, True, False, None, "0", [0], {}, ()):
            self.assert_bad((box,))
            self.assert_bad((0, box))
            self.assert_bad(((2, (0, box)),))

    def test_times(self):
        for times in (2, 3, 998, 999):
            self.assertEqual(unrolled(((times, (0, 1)),)), (0, 1) * times)
        for times in (-1, 0, 1, 1000, 10 ** 30, True, False, None, "2", (2,), [2]):
            self.assert_bad(((times, (0,)),))
            self.assert_bad((1, (2, ((times, (0,)),))))

    def test_stretches(self):
        for item in ((2,), (2, (0,), 0), (2, 0), (2, None), (2, "0"), (2, [0]), [2, (0,)], {2: (0,)}, (2, {0: 0}),
                     (0, 1), (2, ((0,),)), (2, (True,))):
            self.assert_bad((item,))
            self.assert_bad((0, (3, (1, item))))

    def test_an_empty_stretch(self):
        self.assert_bad(((2, ()),))
        self.assert_bad((0, (2, ())))
        self.assert_bad(((2, (0, (3, ()))),))
        self.assert_bad(((2, ((2, ()),)),))

    def test_8_deep_and_9(self):
        self.assertEqual(unrolled(nested(8)), (5,) * 256)
        self.assertEqual(appearances(nested(8)), (5,))
        self.assertEqual(depth(nested(8)), 8)
        self.assertEqual(write_loop(nested(8)), "(2 " * 8 + "5" + ")" * 8)
        self.assert_bad(nested(9))
        self.assert_bad((0, 1) + nested(9))
        self.assert_bad(nested(30))
        self.assert_bad(nested(20000))
        self.assertEqual([depth(nested(deep)) for deep in range(9)], list(range(9)))

    def test_2000_firings_and_more(self):
        for loop in ((1,) * 2000, ((2, ((500, (0, 1)),)),), ((999, (0, 1)), 2, 3), ((100, ((20, (3,)),)),),
                     ((2, nested(3, 10)),)):
            self.assertEqual(unrolled(loop), plain_word(loop))
            self.assertEqual(len(unrolled(loop)), 2000)
            self.assert_bad(loop + (0,))
            self.assert_bad((0,) + loop)
            self.assert_bad(((2, loop),))
        self.assert_bad(((999, (0, 1, 2)),))
        self.assert_bad(((2, (0,) * 1001),))
        self.assert_bad(((2, ((999, (0, 1)),)),))
        self.assert_bad(((500, (0, (4, (1,)))),))

    def test_code_that_would_say_no_end_of_firings(self):
        item = (999, (0,))
        for _ in range(7):
            item = (999, (item,) * 999)
        self.assert_fields(BadLoop, {}, unrolled, (item,))

    def test_values_that_are_no_looped_code(self):
        for value in (*STRANGE, 0, 2, [0], "0", {0: 0}, [(2, (0,))]):
            self.assert_bad(value)
        # No pair of times and a stretch, but a tuple of a box and of what is no item.
        self.assert_bad((2, (0,)))

    def test_against_another_way(self):
        draw = random.Random(12)
        for _ in range(300):
            loop = random_loop(draw)
            text = write_loop(loop)
            with self.subTest(loop=loop):
                self.assertEqual(unrolled(loop), plain_word(loop))
                self.assertEqual("".join(map(str, appearances(loop))), boxes_of(text))
                deep = [text[:at].count("(") - text[:at].count(")") for at in range(len(text))]
                self.assertEqual(depth(loop), max(deep))


def boxes_of(text):
    """Return the digits of a loop's text that stand for boxes: those that do not follow "("."""
    words = text.replace("(", " (").replace(")", " ").split()
    return "".join(word for word in words if not word.startswith("("))


class WriteLoopTest(ErrorCase):
    def test_texts(self):
        self.assertEqual(write_loop(LOOP), "0 (3 1 (2 2))")
        self.assertEqual(write_loop((0,)), "0")
        self.assertEqual(write_loop((7, 0, 3)), "7 0 3")
        self.assertEqual(write_loop(((999, (4,)),)), "(999 4)")
        self.assertEqual(write_loop(((2, ((3, (0, 1)), 2)), (4, (5,)))), "(2 (3 0 1) 2) (4 5)")
        self.assertEqual(write_loop(((2, (1, (10, ((12, (3,)), 4)))), 5)), "(2 1 (10 (12 3) 4)) 5")


class ScheduleTest(ErrorCase):
    def assert_schedule(self, flow, loop, room):
        with self.subTest(flow=flow, loop=loop):
            self.assertIs(is_schedule(flow, loop), room is not None)
            self.assertEqual(loop_room(flow, loop), room)

    def test_rounds(self):
        self.assert_schedule(PAIR, ((3, (0,)), (2, (1,))), (7,))
        self.assert_schedule(PAIR, (0, 1, (2, (0,)), 1), (4,))
        self.assert_schedule(PAIR, (0, 1, 0, 0, 1), (4,))
        self.assert_schedule(RING, (0, (2, (0, 1))), (5, 4))
        self.assert_schedule(OWN, (0,), (5,))
        self.assert_schedule(LONE, (0,), ())
        self.assert_schedule(SKEW, ((2, (0,)), 1, (2, (2,))), (2, 2, 2))
        self.assert_schedule((3, ()), (2, 0, 1), ())

    def test_words_that_do_no_round(self):
        for loop in ((), (0,), ((2, (0,)), 1), ((3, (0,)), (3, (1,))), ((6, (0,)), (4, (1,))), ((2, (0, 1)),)):
            self.assert_schedule(PAIR, loop, None)
        self.assert_schedule((3, ()), (0, 1), None)
        self.assert_schedule((3, ()), (0, 1, 2, 0, 1, 2), None)

    def test_firings_that_cannot_be_done(self):
        self.assert_schedule(PAIR, (1, (3, (0,)), 1), None)
        self.assert_schedule(PAIR, (0, (2, (1,)), (2, (0,))), None)
        self.assert_schedule(RING, ((3, (0,)), (2, (1,))), None)
        self.assert_schedule(DEAD, (0, 1, 2), None)
        self.assert_schedule((1, ((0, 0, 5, 5, 4),)), (0,), None)

    def test_boxes_that_the_flow_does_not_have(self):
        self.assert_schedule(PAIR, ((3, (0,)), (2, (1,)), 2), None)
        self.assert_schedule(LONE, (1,), None)
        self.assert_schedule(LONE, (7,), None)

    def test_rounds_of_2000_firings_and_of_more(self):
        self.assert_schedule(FULL_ROUND, (0, (999, (1, 2)), 3), (999, 999, 1))
        self.assert_schedule(HEAVY, (0, (999, (1, 2)), 3), None)
        self.assert_schedule((3, ((0, 1, 999, 1, 0), (1, 2, 999, 1, 0))), (0,), None)

    def test_wrong_arguments(self):
        for ask in (is_schedule, loop_room):
            self.assert_error(BadFlow, None, ask, None, None)
            self.assert_error(BadFlow, 0, ask, (1, (1,)), (8,))
            for flow in (TILTED, MIXED):
                self.assert_plain_error(NotBalanced, ask, flow, (0,))
                self.assert_plain_error(NotBalanced, ask, flow, None)
            self.assert_plain_error(BadLoop, ask, DEAD, (8,))
            self.assert_plain_error(BadLoop, ask, HEAVY, (8,))

    def test_against_another_way(self):
        draw = random.Random(13)
        told = {True: 0, False: 0}
        for seed in range(300):
            flow = balanced_flow(seed, 3, 4)
            counts = repetitions(flow)
            boxes = [box for box in range(flow[0]) for _ in range(counts[box])]
            draw.shuffle(boxes)
            words = [tuple(boxes)] + ([round_word(flow)] if is_live(flow) else [])
            for word in words:
                able = plainly_done(flow, word)
                loop = folded(word) if len(word) <= 24 else word
                self.assert_schedule(flow, loop, peaks(flow, word) if able else None)
                told[able] += 1
        self.assertGreater(min(told.values()), 50)


def plainly_done(flow, word):
    held = [pipe[4] for pipe in flow[1]]
    for box in word:
        if any(n < p[3] for n, p in zip(held, flow[1]) if p[1] == box):
            return False
        held = [n - p[3] * (p[1] == box) + p[2] * (p[0] == box) for n, p in zip(held, flow[1])]
    return True


class FoldTest(ErrorCase):
    def assert_size(self, word, size):
        with self.subTest(word=word):
            self.assertEqual(repr(fold_size(word)), repr(size))
            loop = folded(word)
            self.assertEqual(unrolled(loop), word)
            self.assertEqual(len(appearances(loop)), size)
            self.assertIs(shows_fold(word, loop), True)

    def test_sizes(self):
        self.assert_size((), 0)
        self.assert_size((7,), 1)
        self.assert_size((0, 0, 0), 1)
        self.assert_size((0, 1), 2)
        self.assert_size((0, 0, 1, 0, 0, 1), 2)
        self.assert_size((0, 1, 0, 1, 0), 3)
        self.assert_size((0, 1, 2, 1, 2, 0, 1, 2, 1, 2), 3)
        self.assert_size((0, 1, 1, 0, 1, 1, 2), 3)
        self.assert_size((3,) * 24, 1)
        self.assert_size((0, 1) * 12, 2)
        self.assert_size((0, 1, 2, 3, 4, 5, 6, 7) * 3, 8)
        self.assert_size((0, 0, 1, 1, 0, 0, 1, 1, 2, 2, 2, 2) * 2, 3)

    def test_the_first_fold_need_not_be_the_best(self):
        # 0 0 at the front would leave the stretch 0 1 behind it a firing short.
        self.assert_size((0, 0, 1, 0, 1, 0, 1), 3)
        self.assert_size((0, 1, 0, 0, 1, 0, 0, 1, 0, 1), 4)
        self.assert_size((1, 0, 0, 1, 0, 0, 0), 3)

    def test_folded(self):
        self.assertEqual(folded((0, 0, 0)), ((3, (0,)),))
        self.assertEqual(folded(()), ())
        self.assertEqual(folded((4,)), (4,))

    def test_shows_fold(self):
        self.assertIs(shows_fold((0, 1, 0, 1), ((2, (0, 1)),)), True)
        self.assertIs(shows_fold((0, 1, 0, 1), (0, 1, 0, 1)), False)
        self.assertIs(shows_fold((0, 1, 0, 1), ((2, (1, 0)),)), False)
        self.assertIs(shows_fold((0, 1, 0, 1), ((3, (0, 1)),)), False)
        self.assertIs(shows_fold((0, 1, 0, 1), (0, 1)), False)
        self.assertIs(shows_fold((0, 0, 0, 0), ((4, (0,)),)), True)
        self.assertIs(shows_fold((0, 0, 0, 0), ((2, ((2, (0,)),)),)), True)
        self.assertIs(shows_fold((0, 0, 0, 0), ((2, (0,)), (2, (0,)))), False)
        self.assertIs(shows_fold((), ()), True)
        self.assertIs(shows_fold((), None), False)
        self.assertIs(shows_fold((0,), (0,)), True)
        self.assertIs(shows_fold((0, 1), (0, 1)), True)

    def test_odd_values_for_shows_fold(self):
        odd = (None, (), [], [(2, (0, 1))], ((2, [0, 1]),), ([2, (0, 1)],), (2, (0, 1)), ((True, (0, 1)),),
               ((2, (False, True)),), ((2, (False, 1)),), ((2, (0, True)),), ((2, (0, 1), 0),), ((1, (0, 1, 0, 1)),),
               (0, 1, 0, True), ((2, ()),), ((2, "01"),), "0101", {0: 1}, nested(9), nested(20000), (0,) * 3000,
               ((999, (0, 1)), (999, (0, 1))), (8,), (-1,))
        for value in (*STRANGE, *odd):
            self.assertIs(shows_fold((0, 1, 0, 1), value), False)
            self.assertIs(shows_fold((), value), value == () and isinstance(value, tuple))

    def test_words_of_24_and_25(self):
        for ask in (fold_size, folded, lambda word: shows_fold(word, None)):
            ask((0, 1, 2) * 8)
            self.assert_fields(TooMany, {"most": 24}, ask, (0, 1, 2) * 8 + (0,))
            self.assert_fields(TooMany, {"most": 24}, ask, (7,) * 25)
            self.assert_fields(TooMany, {"most": 24}, ask, (0,) * 3000)

    def test_values_that_are_no_words(self):
        for ask in (fold_size, folded, lambda word: shows_fold(word, ())):
            wrong = (0, 1, "01", [0, 1], {0: 1}, (0, 8), (-1,), (0, True), (False,), (0, (1,)), (0, None))
            for word in (*STRANGE, *wrong):
                with self.subTest(word=word):
                    self.assert_error(BadWord, None, ask, word)
            # Wrong boxes come ahead of too many.
            self.assert_error(BadWord, None, ask, (0,) * 24 + (8,))
            self.assert_error(BadWord, None, ask, (0,) * 30 + (True,))
            self.assert_error(BadWord, None, ask, [0] * 30)

    def test_against_all_looped_code(self):
        draw = random.Random(14)
        words = [tuple(draw.randrange(2) for _ in range(length)) for length in range(9) for _ in range(12)]
        for word in words:
            codes = all_codes(word)
            least = min(len(appearances(code)) for code in codes)
            self.assert_size(word, least)
            for code in sorted(codes, key=repr)[:30]:
                self.assertIs(shows_fold(word, code), len(appearances(code)) == least)

    def test_long_words(self):
        draw = random.Random(15)
        for _ in range(60):
            loop = random_loop(draw)
            word = plain_word(loop)
            if len(word) <= 24:
                size = fold_size(word)
                self.assertLessEqual(size, len(appearances(loop)))
                self.assert_size(word, size)


if __name__ == "__main__":
    unittest.main()
