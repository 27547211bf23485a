"""Point 4: flows as texts."""

import functools
import random
import unittest

from cases import ErrorCase
from rateflows.errors import InvalidText, NotText
from rateflows.flowtext import read_flow, write_flow
from samples import FLOWS, LONE, MIXED, OWN, PAIR, RING, STRANGE, WIDEST, random_flow

PIPE_TEXT = "0*2>1>3*1"
# The parts of a pipe's text: what stands in front of a number, the least and the greatest number that may stand.
PIPE_PARTS = (("", 0, 1), ("*", 1, 999), (">", 0, 99999), (">", 1, 999), ("*", 0, 1))


@functools.cache
def number_texts(low, high):
    """Return the set of the texts of these numbers, and the set of what they may begin with, a first 0 with them."""
    fits = {str(number) for number in range(low, high + 1)}
    return fits, {word[:length] for word in fits for length in range(1, len(word) + 1)} | {"0"}


def first_wrong(text):
    """Return the first place at which a text is wrong, None for a right one, by lists of what may stand at each."""
    boxes, many, place = 0, 0, len(text) - len(text.lstrip(" "))
    while True:
        parts = PIPE_PARTS if boxes else (("", 1, 8),)
        if many == 17:
            return place
        for sign, low, high in parts:
            if text[place:place + len(sign)] != sign:
                return place
            place += len(sign)
            high = boxes - 1 if boxes and high == 1 else high
            fits, starts = number_texts(low, high)
            length = 0
            while text[place + length:place + length + 1].isdigit() and text[place:place + length + 1] in starts:
                length += 1
            if text[place + length:place + length + 1].isdigit():
                return place + length
            if text[place:place + length] not in fits:
                return place
            place += length
        boxes = boxes or int(text[place - 1])
        many += 1
        gap = len(text[place:]) - len(text[place:].lstrip(" "))
        if place + gap == len(text):
            return None
        if gap == 0:
            return place
        place += gap


class WriteTest(ErrorCase):
    def test_texts(self):
        self.assertEqual(write_flow((2, ((0, 1, 2, 3, 4), (1, 0, 1, 2, 0)))), "2 0*2>4>3*1 1*1>0>2*0")
        self.assertEqual(write_flow(LONE), "1")
        self.assertEqual(write_flow((8, ())), "8")
        self.assertEqual(write_flow(OWN), "1 0*2>3>2*0")
        self.assertEqual(write_flow((8, ((7, 3, 999, 998, 99999),))), "8 7*999>99999>998*3")
        self.assertEqual(write_flow(MIXED), "5 0*1>0>2*1 0*2>5>4*1 1*3>2>1*0 2*1>4>4*2 1*999>99999>999*3")

    def test_what_is_written_is_read(self):
        for flow in (*FLOWS, *map(random_flow, range(200))):
            with self.subTest(flow=flow):
                self.assertEqual(repr(read_flow(write_flow(flow))), repr(flow))


class ReadTest(ErrorCase):
    def assert_place(self, place, text):
        with self.subTest(text=text):
            self.assert_fields(InvalidText, {"place": place}, read_flow, text)

    def test_texts(self):
        self.assertEqual(read_flow("1"), LONE)
        self.assertEqual(read_flow("8"), (8, ()))
        self.assertEqual(read_flow("2 0*2>1>3*1"), PAIR)
        self.assertEqual(read_flow("2 0*2>1>3*1 1*3>4>2*0"), RING)
        self.assertEqual(repr(read_flow("8 7*999>99999>998*3")), "(8, ((7, 3, 999, 998, 99999),))")

    def test_spaces(self):
        for text in (" 2 0*2>1>3*1", "2 0*2>1>3*1 ", "   2   0*2>1>3*1   ", "2     0*2>1>3*1"):
            self.assertEqual(read_flow(text), PAIR)
        self.assertEqual(read_flow("  2 0*2>1>3*1    1*3>4>2*0 "), RING)
        self.assertEqual(read_flow("   1   "), LONE)

    def test_other_blanks_are_no_spaces(self):
        for blank in "\t\n\r\f\v\u00a0\u2003\u3000":
            self.assert_place(0, blank + "2")
            self.assert_place(1, "2" + blank)
            self.assert_place(1, "2" + blank + PIPE_TEXT)
            self.assert_place(11, "2 " + PIPE_TEXT + blank)

    def test_no_spaces_within_a_pipe(self):
        for place in range(1, len(PIPE_TEXT)):
            self.assert_place(2 + place, "2 " + PIPE_TEXT[:place] + " " + PIPE_TEXT[place:])

    def test_values_that_are_no_texts(self):
        for value in (*STRANGE, 0, 2, ("2",), ["2"], {"2": 2}, RING):
            if not isinstance(value, str):
                with self.subTest(value=value):
                    self.assert_plain_error(NotText, read_flow, value)

    def test_the_number_of_boxes(self):
        for text, place in (("0", 0), ("9", 0), ("10", 1), ("80", 1), ("00", 1), ("01", 1), ("08", 1), (" 0 ", 1),
                            (" 9", 1), ("  18", 3), ("-1", 0), ("+1", 0), ("x", 0), ("2x", 1), ("2*", 1), ("2,", 1),
                            ("0x", 0), ("0 0*1>1>1*0", 0), ("1.", 1)):
            self.assert_place(place, text)

    def test_boxes_of_a_pipe(self):
        for boxes in range(1, 9):
            for box in range(boxes):
                self.assertEqual(read_flow(f"{boxes} {box}*1>1>1*{box}"), (boxes, ((box, box, 1, 1, 1),)))
            for box in range(boxes, 10):
                self.assert_place(2, f"{boxes} {box}*1>1>1*0")
                self.assert_place(10, f"{boxes} 0*1>1>1*{box}")
        for box in ("00", "01", "10", "12"):
            self.assert_place(3, f"2 {box}*1>1>1*0")
            self.assert_place(11, f"2 0*1>1>1*{box}")
        self.assert_place(3, "8 70*1>1>1*0")
        self.assert_place(2, "1 1")

    def test_rates(self):
        for rate in (1, 9, 10, 99, 100, 998, 999):
            self.assertEqual(read_flow(f"2 0*{rate}>1>1*1"), (2, ((0, 1, rate, 1, 1),)))
            self.assertEqual(read_flow(f"2 0*1>1>{rate}*1"), (2, ((0, 1, 1, rate, 1),)))
        for rate, place in (("0", 0), ("00", 1), ("01", 1), ("0999", 1), ("1000", 3), ("9990", 3), ("99999", 3),
                            ("100x", 3), ("-1", 0), ("", 0), ("x", 0), ("1x", 1), ("0x", 0)):
            self.assert_place(4 + place, f"2 0*{rate}>1>1*1")
            self.assert_place(8 + place, f"2 0*1>1>{rate}*1")

    def test_tokens(self):
        for tokens in (0, 1, 9, 10, 99998, 99999):
            self.assertEqual(read_flow(f"2 0*1>{tokens}>1*1"), (2, ((0, 1, 1, 1, tokens),)))
        for tokens, place in (("00", 1), ("01", 1), ("099999", 1), ("100000", 5), ("999990", 5), ("99999x", 5),
                              ("", 0), ("-0", 0), ("0x", 1)):
            self.assert_place(6 + place, f"2 0*1>{tokens}>1*1")

    def test_a_first_digit_0_where_the_number_may_not_be_0(self):
        for text, place in (("0", 0), ("2 0*0", 4), ("2 0*0>1>1*1", 4), ("2 0*1>1>0", 8), ("2 0*1>1>0*1", 8)):
            self.assert_place(place, text)
        # With a digit behind it, the 0 is not the fault.
        for text, place in (("00", 1), ("05", 1), ("2 0*00", 5), ("2 0*05>1>1*1", 5), ("2 0*1>1>05*1", 9),
                            ("2 0*1>1>00", 9)):
            self.assert_place(place, text)

    def test_texts_that_end_too_soon(self):
        for text in ("", " ", "    "):
            self.assert_place(len(text), text)
        for length in range(1, len(PIPE_TEXT)):
            self.assert_place(2 + length, "2 " + PIPE_TEXT[:length])
            self.assert_place(12 + length, "2 " + PIPE_TEXT + " " + PIPE_TEXT[:length])
        self.assert_place(6, "2 0*2>")
        self.assert_place(6, "2 0*2> ")

    def test_other_signs(self):
        for place in range(len(PIPE_TEXT)):
            for sign in "x-.,+<(\u0663\u00b2\u0661":
                self.assert_place(2 + place, "2 " + PIPE_TEXT[:place] + sign + PIPE_TEXT[place + 1:])
        self.assert_place(3, "2 0>2>1>3*1")
        self.assert_place(5, "2 0*2*1>3*1")
        self.assert_place(7, "2 0*2>1*3*1")
        self.assert_place(9, "2 0*2>1>3>1")
        for sign in "\u0663\u00b2\u0661":
            self.assert_place(0, sign)
            self.assert_place(1, "2" + sign)

    def test_what_stands_behind_a_pipe(self):
        for sign in "x*>0129":
            self.assert_place(11, "2 " + PIPE_TEXT + sign)
            self.assert_place(11, "2 " + PIPE_TEXT + sign + " " + PIPE_TEXT)

    def test_a_seventeenth_pipe(self):
        full = " ".join(["2"] + [PIPE_TEXT] * 16)
        self.assertEqual(len(read_flow(full)[1]), 16)
        self.assertEqual(read_flow(full + "  "), read_flow(full))
        for more in ("0", "1", "5", PIPE_TEXT, "x", "00"):
            self.assert_place(len(full) + 1, full + " " + more)
            self.assert_place(len(full) + 3, full + "   " + more + " ")
        self.assertEqual(read_flow(write_flow(WIDEST)), WIDEST)

    def test_against_another_way(self):
        draw = random.Random(4)
        right = [write_flow(random_flow(seed)) for seed in range(60)] + ["2 " + PIPE_TEXT, "1", "8 7*10>20>30*6"]
        told = {}
        for text in right:
            for _ in range(60):
                at = draw.randrange(len(text) + 1)
                sign = draw.choice("000123456789*> x")
                other = draw.choice((text[:at], text[:at] + sign + text[at:], text[:at] + sign + text[at + 1:],
                                     text[:at] + text[at + 1:], text + " " + text[2:]))
                place = first_wrong(other)
                told[place is None] = told.get(place is None, 0) + 1
                if place is None:
                    flow = read_flow(other)
                    self.assertEqual(write_flow(flow), " ".join(other.split()))
                else:
                    self.assert_place(place, other)
        self.assertGreater(min(told[True], told[False]), 100)


if __name__ == "__main__":
    unittest.main()
