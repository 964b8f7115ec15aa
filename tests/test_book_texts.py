"""[5]: the texts of Books."""

import itertools
import unittest

from onceopened.books import Book, Opening
from onceopened.errors import BadLine, Ringed
from onceopened.lots import Lot

BAD_LINES = (
    "", " ", "-", "a", "a =", "a = ", "a = -", "= 1 b", " = 1 b", "1 b", "a=1 b", "a =1 b", "a= 1 b", "a  = 1 b",
    "a =  1 b", " a = 1 b", "a = 1 b ", "a = 1 b\r", "\ta = 1 b", "a = b", "a = 1", "a = 0 b", "a = 01 b", "a = -1 b",
    "a = +1 b", "a = 1  b", "a = 1 c 1 b", "a = 1 b 1 b", "a = 1 B", "a = 1 abcdefghi", "a = " + "1" * 301 + " b",
    "A = 1 b", "aB = 1 b", "abcdefghi = 1 b", "a1 = 1 b", "a b = 1 c", "1 a = 1 b", "\u00e4 = 1 b", "a = 1 \u00e4",
    "\u0430 = 1 b", "a = \u0661 b", "a = 1 b = 1 c", "a = b = 1 c", "a = = 1 b", "a == 1 b", "a = 1 b; c = 1 d",
    "a\u00a0=\u00a01 b", "a = 1 b\u2028c = 1 d", "a = 1 b\x0bc = 1 d", "- = 1 b", "a = 1 b -", "a = - 1 b",
)


class TextTest(unittest.TestCase):
    def test_text_is_ascending(self):
        rows = [Opening("b", Lot.of("10 c")), Opening("b", Lot.of("9 c")), Opening("a", Lot.of("1 c 2 d"))]
        for order in itertools.permutations(rows):
            self.assertEqual(Book(order).text(), "a = 1 c 2 d\nb = 9 c\nb = 10 c")

    def test_text_of_no_openings(self):
        self.assertEqual(Book().text(), "-")

    def test_of_in_any_order_and_as_often_as_one_likes(self):
        lines = ["box = 3 pair", "pair = 2 cup", "box = 1 hat", "pair = 2 cup"]
        expected = Book((Opening("box", Lot.of("3 pair")), Opening("pair", Lot.of("2 cup")),
                         Opening("box", Lot.of("1 hat"))))
        for order in itertools.permutations(lines):
            self.assertEqual(Book.of("\n".join(order)), expected)

    def test_back_and_forth(self):
        for text in ("-", "a = 1 b", "abcdefgh = 1 stuvwxyz", "a = 1 b 20 c\na = 2 b\nb = " + "9" * 300 + " d"):
            self.assertEqual(Book.of(text).text(), text)

    def test_dash_alone_is_the_empty_book(self):
        self.assertEqual(Book.of("-"), Book())
        self.assertEqual(len(Book.of("-")), 0)


class BadLineTest(unittest.TestCase):
    def bad(self, text, number):
        with self.subTest(text=text), self.assertRaises(BadLine) as caught:
            Book.of(text)
        self.assertEqual(caught.exception.number, number)

    def test_each_way_in_which_a_line_can_be_bad(self):
        for line in BAD_LINES:
            if line != "-":
                self.bad(line, 0)
            self.bad("x = 1 y\n" + line, 1)
            self.bad(line + "\nx = 1 y", 0)

    def test_the_first_of_several(self):
        self.bad("x = 1 y\nx = 1 z\nbad\ny = 1 z\nworse", 2)
        self.bad("bad\n\n\n", 0)
        for one, other in itertools.product(BAD_LINES, BAD_LINES):
            with self.assertRaises(BadLine) as caught:
                Book.of("x = 1 y\n" + one + "\nx = 2 y\n" + other)
            self.assertEqual(caught.exception.number, 1)

    def test_empty_lines(self):
        self.bad("", 0)
        self.bad("\n", 0)
        self.bad("a = 1 b\n", 1)
        self.bad("\na = 1 b", 0)
        self.bad("a = 1 b\n\nc = 1 d", 1)

    def test_dash_among_other_lines(self):
        self.bad("-\n-", 0)
        self.bad("-\n", 0)
        self.bad("\n-", 0)
        self.bad("a = 1 b\n-", 1)
        self.bad("-\na = 1 b", 0)
        self.bad(" -", 0)

    def test_other_line_ends_are_no_line_feeds(self):
        for sign in "\r\x0b\x0c\x1c\x85\u2028\u2029":
            self.bad(f"a = 1 b{sign}c = 1 d", 0)
        self.bad("a = 1 b\r\nc = 1 d", 0)

    def test_ahead_of_ringed(self):
        self.bad("a = 1 a\nbad", 1)
        self.bad("bad\na = 1 a", 0)
        self.bad("a = 1 b\nb = 1 a\nc = 1 d\nc = -", 3)
        self.bad("a = 1 b\nb = 1 a\n", 2)

    def test_a_line_with_its_own_kind_is_no_bad_line(self):
        for text in ("a = 1 a", "x = 1 y\na = 1 a 1 b\nb = 1 c"):
            with self.assertRaises(Ringed) as caught:
                Book.of(text)
            self.assertEqual(caught.exception.ring, ("a",))
