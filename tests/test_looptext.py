"""Point 13: looped code read from texts."""

import random
import unittest

from cases import ErrorCase
from rateflows.errors import InvalidText, NotText
from rateflows.loops import unrolled, write_loop
from rateflows.looptext import read_loop
from samples import STRANGE

DEEPEST = "(2 " * 8 + "5" + ")" * 8


def plain_place(text):
    """Return the place of the first character that cannot stand, None in a right text, by going from sign to sign."""
    # What may stand next: an item, what stands behind an item, a first digit, or what stands behind a digit.
    next_one, open_ones, number, since = "item", [], "", [0]
    for place, sign in enumerate(text):
        if next_one == "digit" or (next_one == "number" and sign != " "):
            number += sign
            if sign not in "0123456789" or number == "0" or int(number) > 999:
                return place
            next_one = "number"
        elif next_one == "number":
            if number == "1":
                return place - 1
            open_ones.append(int(number))
            since.append(0)
            next_one = "item"
        elif sign == " ":
            next_one = "item"
        elif sign == ")":
            if not open_ones or since[-1] == 0:
                return place
            inner = since.pop() * open_ones.pop()
            since[-1] += inner
            next_one = "behind"
        elif next_one == "item" and sign == "(" and len(open_ones) < 8:
            next_one, number = "digit", ""
        elif next_one == "item" and sign in "01234567":
            since[-1] += 1
            next_one = "behind"
        else:
            return place
    ended = next_one in ("item", "behind") and not open_ones
    return None if ended and since[0] <= 2000 else len(text)


def random_text(draw, deep=3):
    """Return the text of some looped code, with spaces wherever they may stand."""
    def gap(least=0):
        return " " * draw.choice((least, least, 1, 2))
    words = []
    for _ in range(draw.randint(1, 3)):
        if deep and draw.random() < 0.4:
            words.append(f"({draw.randint(2, 11)}{gap(1)}{random_text(draw, deep - 1)}{gap()})")
        else:
            words.append(str(draw.randrange(8)))
    return gap(1).join(words)


class ReadLoopTest(ErrorCase):
    def assert_place(self, text, place):
        with self.subTest(text=text[:80]):
            self.assert_fields(InvalidText, {"place": place}, read_loop, text)

    def assert_loop(self, text, loop):
        with self.subTest(text=text[:80]):
            self.assertEqual(repr(read_loop(text)), repr(loop))

    def test_items(self):
        self.assert_loop("0 (3 1 (2 2))", (0, (3, (1, (2, (2,))))))
        self.assert_loop("7", (7,))
        for box in range(8):
            self.assert_loop(str(box), (box,))
        self.assert_loop("7 0 3", (7, 0, 3))
        self.assert_loop("(2 0)", ((2, (0,)),))
        self.assert_loop("(2 (3 0 1) 2) (4 5) 6", ((2, ((3, (0, 1)), 2)), (4, (5,)), 6))
        self.assert_loop("(2 (2 (2 0)))", ((2, ((2, ((2, (0,)),)),)),))

    def test_no_items(self):
        for text in ("", " ", "     "):
            self.assert_loop(text, ())

    def test_spaces(self):
        self.assert_loop(" 0 (3 1  (2 2) ) ", (0, (3, (1, (2, (2,))))))
        self.assert_loop("   0   1   ", (0, 1))
        self.assert_loop("(2   0   1   )   ", ((2, (0, 1)),))
        self.assert_loop("  (2  (3  0  )  )", ((2, ((3, (0,)),)),))

    def test_no_space_between_a_parenthesis_and_its_number(self):
        self.assert_place("( 2 0)", 1)
        self.assert_place("0 (  2 0)", 3)
        self.assert_place("(2 ( 3 0))", 4)

    def test_a_space_behind_a_number(self):
        self.assert_place("(2(3 0))", 2)
        self.assert_place("(12)", 3)
        self.assert_place("(2a 0)", 2)
        self.assert_place("(2,0)", 2)
        self.assert_place("(2\t0)", 2)
        # A digit is of the number, however many boxes there are.
        self.assert_place("(20)", 3)

    def test_numbers(self):
        self.assert_loop("(2 0)", ((2, (0,)),))
        self.assert_loop("(10 0)", ((10, (0,)),))
        self.assert_loop("(100 0)", ((100, (0,)),))
        self.assert_loop("(999 0 1)", ((999, (0, 1)),))
        self.assert_place("(1000 0)", 4)
        self.assert_place("(9990 0)", 4)
        self.assert_place("0 (99999999 0)", 6)
        self.assert_place("(1000", 4)

    def test_a_first_digit_0(self):
        for text in ("(0 1)", "(02 1)", "(00", "(0", "(0)"):
            self.assert_place(text, 1)
        self.assert_place("5 (2 (010 1))", 6)

    def test_a_number_less_than_2(self):
        self.assert_place("(1 0)", 1)
        self.assert_place("(1 ", 1)
        self.assert_place("0 (1 2)", 3)
        self.assert_place("0 (2 (1  2))", 6)
        # Where no space follows, another digit could have stood there.
        self.assert_place("(1)", 2)
        self.assert_place("(1(", 2)
        self.assert_place("(1", 2)
        self.assert_place("(1x", 2)

    def test_the_eighth_depth_and_the_ninth(self):
        loop = (5,)
        for _ in range(8):
            loop = ((2, loop),)
        self.assert_loop(DEEPEST, loop)
        self.assert_loop("0 " + DEEPEST + " " + DEEPEST, (0, *loop, *loop))
        self.assert_place("(2 " + DEEPEST + ")", 24)
        self.assert_place("(2 " * 8 + "0 (2 1)" + ")" * 8, 26)
        self.assert_place("(2 " * 9, 24)
        self.assert_place("(2 " * 100000, 24)
        self.assert_place("(" * 100000, 1)
        # One that is behind the eighth is none of the ninth.
        self.assert_loop("(2 " * 7 + "(2 0) (2 1)" + ")" * 7, self.nested(((2, (0,)), (2, (1,))), 7))

    def nested(self, loop, deep):
        for _ in range(deep):
            loop = ((2, loop),)
        return loop

    def test_an_empty_stretch(self):
        self.assert_place("(2 )", 3)
        self.assert_place("(2    )", 6)
        self.assert_place("(2)", 2)
        self.assert_place("()", 1)
        self.assert_place("0 (2 1 (3 ))", 10)
        self.assert_place("(2 (3 0) ) )", 11)

    def test_a_parenthesis_too_many(self):
        self.assert_place(")", 0)
        self.assert_place("  )", 2)
        self.assert_place("0)", 1)
        self.assert_place("0 )", 2)
        self.assert_place("(2 0))", 5)
        self.assert_place("(2 0) 1 )", 8)

    def test_boxes_8_and_9(self):
        self.assert_loop("7", (7,))
        self.assert_place("8", 0)
        self.assert_place("9", 0)
        self.assert_place("0 8", 2)
        self.assert_place("(2 9)", 3)
        self.assert_place("(2 0 (3 1 8))", 10)

    def test_behind_a_box_and_a_parenthesis(self):
        self.assert_place("01", 1)
        self.assert_place("0 12", 3)
        self.assert_place("10", 1)
        self.assert_place("0(2 1)", 1)
        self.assert_place("(2 01)", 4)
        self.assert_place("(2 0)1", 5)
        self.assert_place("(2 0)(3 1)", 5)
        self.assert_place("(2 0(3 1))", 4)
        self.assert_place("0,1", 1)
        self.assert_place("(2 0),", 5)

    def test_other_characters(self):
        for sign in ("-", "+", "a", "*", ">", "\t", "\n", "\u00a0", "\u0660", "\u00b2", "\uff11", "[", "\0", "."):
            self.assert_place(sign, 0)
            self.assert_place("0 " + sign, 2)
            self.assert_place("0" + sign, 1)
            self.assert_place("(" + sign, 1)
            self.assert_place("(2" + sign, 2)
            self.assert_place("(2 " + sign + "0)", 3)
            self.assert_place("(2 0)" + sign, 5)

    def test_texts_that_end_too_soon(self):
        for text in ("(", "(2", "(2 ", "(2 0", "(2 0 ", "(2 0 (3 1)", "0 (", "0 (1", "0 (99", "0 (999 (2 1)  "):
            self.assert_place(text, len(text))
        text = "0 (3 1 (12 2))"
        for end in range(3, len(text)):
            self.assert_place(text[:end], end)

    def test_2000_firings_and_more(self):
        self.assert_loop("(2 (500 0 1))", ((2, ((500, (0, 1)),)),))
        self.assert_loop("(999 0 1) 2 3", ((999, (0, 1)), 2, 3))
        self.assert_loop("0 " * 2000, (0,) * 2000)
        for text in ("(2 (500 0 1)) 0", "0 (2 (500 0 1))  ", "(999 0 1) 2 3 4", "0 " * 2001, "(999 (999 (999 0)))",
                     "(999 0 1 2)", "(2 (999 0 1)) ", "(3 (667 7))", "(999 " * 8 + "0" + ")" * 8):
            self.assert_place(text, len(text))
        # What cannot stand comes ahead of too many firings, wherever it is.
        self.assert_place("(999 0 1 2) 8", 12)
        self.assert_place("(999 0 1 2)  3)", 14)
        self.assert_place("(999 0 1 2", 10)

    def test_values_that_are_no_strings(self):
        for value in (*STRANGE, 0, 2, (0,), (0, (2, (1,))), ("0",), ["0"], b"0"):
            if not isinstance(value, str):
                self.assert_plain_error(NotText, read_loop, value)

    def test_what_is_written_is_read(self):
        draw = random.Random(31)
        for _ in range(300):
            text = random_text(draw)
            if plain_place(text) is not None:
                continue
            loop = read_loop(text)
            with self.subTest(text=text):
                self.assertEqual(repr(read_loop(write_loop(loop))), repr(loop))
                self.assertEqual(write_loop(loop), " ".join(text.replace(")", " )").split()).replace(" )", ")"))
                self.assertLessEqual(len(unrolled(loop)), 2000)

    def test_places_against_another_way(self):
        draw = random.Random(32)
        told = {True: 0, False: 0}
        for _ in range(6000):
            text = random_text(draw) if draw.random() < 0.8 else ""
            for _ in range(draw.randint(0, 3)):
                at = draw.randint(0, len(text))
                put = "".join(draw.choice("  ()012789") for _ in range(draw.randint(0, 3)))
                text = text[:at] + put + text[at + draw.randint(0, 2):]
            place = plain_place(text)
            told[place is None] += 1
            with self.subTest(text=text):
                if place is None:
                    read_loop(text)
                else:
                    self.assert_place(text, place)
        self.assertGreater(min(told.values()), 500)


if __name__ == "__main__":
    unittest.main()
