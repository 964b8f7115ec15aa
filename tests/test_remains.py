"""[13]: what a stock becomes, and the greatest leftovers behind an ask."""

import unittest

from onceopened.books import Book
from onceopened.lots import Lot
from onceopened.remains import becomes, leftovers
from tests import brute

GREAT = 10 ** 12
DEEP = "w = 1 y 1 z\nw = 1 v\nv = 1 q 1 x\nq = 1 t 1 z\nq = 1 u 1 y\ny = 1 t 1 x\nz = 1 u 1 x"


def texts(lots):
    return [lot.text() for lot in lots]


class RemainsTest(unittest.TestCase):
    def new(self, call, lots):
        """Whether the list and its Lots are new each time."""
        self.assertIsInstance(lots, list)
        told = texts(lots)
        for lot in lots:
            lot += Lot.of("7 other")
        lots.clear()
        self.assertEqual(texts(call()), told)


class BecomesTest(RemainsTest):
    def check(self, text, stock, expected):
        book, lot = Book.of(text), Lot.of(stock)
        self.assertEqual(texts(becomes(book, lot)), expected)
        self.new(lambda: becomes(book=book, stock=lot), becomes(book, lot))
        self.assertEqual((book, lot), (Book.of(text), Lot.of(stock)))

    def test_without_openings(self):
        self.check("-", "-", ["-"])
        self.check("-", "2 cup", ["2 cup"])
        self.check("box = 1 cup", "2 cup", ["2 cup"])

    def test_the_stock_is_not_the_one_handed_in(self):
        stock = Lot.of("2 cup")
        becomes(Book(), stock)[0]["cup"] = 9
        self.assertEqual(stock.text(), "2 cup")

    def test_each_once_in_the_order_of_their_pairs(self):
        self.check("case = 1 cup 1 pack\npack = 1 cup 1 lid", "1 case", ["1 case", "1 cup 1 pack", "2 cup 1 lid"])
        self.check("b = 1 a\nb = 1 c", "2 b", ["1 a 1 b", "1 a 1 c", "2 a", "1 b 1 c", "2 b", "2 c"])
        # Two ways lead to the last one.
        self.check("a = 1 b\na = 1 c\nb = 1 d\nc = 1 d", "1 a", ["1 a", "1 b", "1 c", "1 d"])
        # By texts "10 a" would be ahead of "9 a".
        self.check("b = 1 a", "9 a 1 b", ["9 a 1 b", "10 a"])
        self.check("q = 1 b", "1 a 1 q", ["1 a 1 b", "1 a 1 q"])

    def test_idle_openings_are_done_too(self):
        self.check("a = 1 b\na = 2 b", "1 a", ["1 a", "1 b", "2 b"])

    def test_openings_that_are_too_great_for_the_stock(self):
        self.check(f"a = {GREAT} b\nb = 2 c", "2 b", ["1 b 2 c", "2 b", "4 c"])
        self.check(f"a = {GREAT} b\na = {GREAT} d\nz = 1 b\nb = 1 c", "1 z", ["1 b", "1 c", "1 z"])

    def test_small_books_against_each_way_to_open(self):
        chance, books = brute.books(10, 500)
        for book in books:
            stock = brute.lot_of(chance, book, 10)
            expected = sorted(brute.becomes(brute.rows_of(book), stock.pairs()))
            self.assertEqual([lot.pairs() for lot in becomes(book, stock)], expected)


class LeftoversTest(RemainsTest):
    def check(self, text, stock, ask, expected):
        book, lot, asked = Book.of(text), Lot.of(stock), Lot.of(ask)
        self.assertEqual(texts(leftovers(book, lot, asked)), expected)
        self.new(lambda: leftovers(book=book, stock=lot, ask=asked), leftovers(book, lot, asked))
        self.assertEqual((book, lot, asked), (Book.of(text), Lot.of(stock), Lot.of(ask)))

    def test_the_ask_is_not_given(self):
        self.check("-", "-", "1 cup", [])
        self.check("box = 2 cup", "1 box", "3 cup", [])
        self.check("box = 2 cup", "1 box", "1 tea", [])
        self.check("y = 1 p\ny = 1 q", "1 y", "1 p 1 q", [])

    def test_one_is_greatest(self):
        self.check("-", "3 cup", "1 cup", ["2 cup"])
        self.check("-", "-", "-", ["-"])
        self.check("box = 2 cup", "1 box", "2 cup", ["-"])
        self.check("box = 2 cup", "2 box", "-", ["2 box"])
        self.check("box = 2 cup", "2 box", "1 cup", ["1 box 1 cup"])
        self.check("box = 2 cup", "2 box 1 cup", "1 cup", ["2 box"])
        self.check("y = 1 p\ny = 1 q", "2 y", "1 p 1 q", ["-"])

    def test_several_are_greatest(self):
        self.check("case = 1 cup 1 pack\npack = 1 cup 1 lid", "1 case 1 pack", "1 cup", ["1 case 1 lid", "2 pack"])
        self.check(DEEP, "1 y 1 z", "1 x", ["1 t 1 z", "1 u 1 y"])
        self.check(DEEP, "1 w", "1 x", ["1 q"])
        self.check("b = 1 a 1 x\nc = 1 d 1 x\ne = 1 f 1 x", "1 b 1 c 1 e", "1 x",
                   ["1 a 1 c 1 e", "1 b 1 c 1 f", "1 b 1 d 1 e"])

    def test_ascending_though_the_stocks_stand_otherwise(self):
        # Ahead of the ask "1 a 1 y" is behind "1 a 1 x 1 z"; what is left of them stands the other way round.
        self.check("y = 1 b 1 x\nz = 1 a 1 x", "1 y 1 z", "1 x", ["1 a 1 y", "1 b 1 z"])
        self.check("p = 1 a 1 c\nq = 2 a", "1 p 1 q", "1 a", ["1 a 1 p", "1 c 1 q"])
        self.check("x = 2 a\ny = 1 a 1 b", "1 x 1 y", "1 a", ["1 a 1 y", "1 b 1 x"])

    def test_one_that_lies_in_another_one_is_not_greatest(self):
        # Behind one cup of the crate a spoon is left, behind one cup of the box nothing more.
        self.check("a = 1 cup\na = 1 cup 1 spoon", "1 a", "1 cup", ["1 spoon"])
        self.check("a = 1 b 1 cup\na = 1 cup\nb = 1 cup", "1 a", "1 cup", ["1 b"])

    def test_one_that_another_one_becomes_is_not_greatest(self):
        self.check("a = 1 b 1 cup\na = 1 c 1 cup\nb = 1 c", "1 a", "1 cup", ["1 b"])
        self.check("a = 1 b 1 cup\na = 1 c 1 cup\nb = 1 c 1 d", "1 a", "1 cup", ["1 b"])
        self.check("a = 1 b 1 cup\na = 1 cup 1 d\nb = 2 c\nc = 1 d", "1 a", "1 cup", ["1 b"])

    def test_any_asks(self):
        book, stock = Book.of("case = 1 cup 1 pack\npack = 1 cup 1 lid"), Lot.of("1 case")
        for ask in (Lot((("cup", GREAT),)), Lot((("cup", 1), ("other", GREAT ** 5))), Lot((("case", 2),))):
            self.assertEqual(leftovers(book, stock, ask), [])
        self.assertEqual(texts(leftovers(Book.of(f"a = {GREAT} b\nb = 1 c"), Lot.of("2 b"), Lot.of("1 c"))), ["1 b"])

    def test_small_books_against_all_leftovers(self):
        chance, books = brute.books(11, 500)
        told = []
        for book in books:
            stock = brute.lot_of(chance, book, 10)
            ask = brute.ask_of(chance, book, stock)
            expected = brute.leftovers(brute.rows_of(book), stock.pairs(), ask.pairs())
            found = [lot.pairs() for lot in leftovers(book, stock, ask)]
            self.assertEqual(found, expected, (book.text(), stock.text(), ask.text()))
            told.append(min(len(expected), 2))
        self.assertGreater(min(told.count(many) for many in range(3)), 9)
