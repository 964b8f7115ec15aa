"""[3], [6]: what a stock gives, and a Plan for it."""

import itertools
import unittest

from onceopened.books import Book
from onceopened.errors import Short
from onceopened.lots import Lot
from onceopened.plans import Plan, gives, needed, plan_for
from tests import brute

GREAT = 10 ** 12


def lies_behind(plan, stock, ask):
    try:
        return ask.within(plan.after(stock))
    except Short:
        return False


class GivesTest(unittest.TestCase):
    def check(self, book, stock, ask, given):
        """Whether both functions tell the same, the Plan does what is needed and no more, and nothing is changed."""
        told = (book.text(), stock.text(), ask.text())
        with self.subTest(told=told):
            self.assertIs(gives(book, stock, ask), given)
            plan = plan_for(book, stock, ask)
            if given:
                self.assertIsInstance(plan, Plan)
                self.assertTrue(plan.fits(book))
                self.assertTrue(lies_behind(plan, stock, ask))
                for opening in plan.openings():
                    self.assertFalse(lies_behind(plan - Plan(((opening, 1),)), stock, ask))
            else:
                self.assertIsNone(plan)
            self.assertEqual((book.text(), stock.text(), ask.text()), told)
            self.assertEqual(plan_for(book=Book(book.openings()[::-1]), stock=stock, ask=ask), plan)
            self.assertIs(gives(book=book, stock=stock, ask=ask), given)

    def rows(self, text, rows):
        book = Book.of(text)
        for stock, ask, given in rows:
            self.check(book, Lot.of(stock), Lot.of(ask), given)

    def test_without_openings(self):
        self.rows("-", (("-", "-", True), ("2 cup", "2 cup", True), ("2 cup", "-", True), ("2 cup", "3 cup", False),
                        ("2 cup", "1 tea", False), ("-", "1 cup", False)))

    def test_one_opening_for_each_kind(self):
        self.rows("box = 3 pair\npair = 2 cup", (
            ("2 box 1 cup", "13 cup", True), ("2 box 1 cup", "14 cup", False), ("2 box 1 cup", "1 box 8 cup", False),
            ("2 box 1 cup", "1 box 7 cup", True), ("2 box 1 cup", "11 cup 1 pair", True), ("3 cup", "1 pair", False),
            ("2 box 5 hat", "12 cup 1 hat", True), ("2 box 5 hat", "6 hat", False), ("1 pair", "1 box", False),
            ("2 pair", "-", True), ("1 box 1 pair", "1 box 1 pair", True), ("1 box 1 pair", "1 box 2 pair", False)))

    def test_a_kind_in_two_openings(self):
        self.rows("gift = 2 cup 1 tea\nsix = 6 cup", (
            ("1 gift 1 six", "8 cup 1 tea", True), ("1 gift 1 six", "3 cup 1 six", False),
            ("1 gift 1 six", "6 cup 1 gift", True), ("1 gift 1 six", "7 cup 1 gift", False), ("2 gift", "2 tea", True)))
        self.rows("y = 1 a 2 k\nz = 3 k\nk = 2 m", (
            ("1 y 1 z", "2 k 3 m 1 z", False), ("1 y 1 z", "2 k 6 m", True), ("1 y 1 z", "2 k 7 m", False),
            ("1 y 1 z", "1 a 10 m", True), ("1 y 1 z", "11 m", False)))

    def test_two_openings_of_a_kind(self):
        self.rows("chest = 2 nut\nchest = 1 bolt 1 nut", (
            ("3 chest", "2 bolt 4 nut", True), ("3 chest", "2 bolt 5 nut", False), ("3 chest", "3 bolt", True),
            ("3 chest", "4 bolt", False), ("3 chest", "2 bolt 1 chest 2 nut", True),
            ("3 chest", "2 bolt 1 chest 3 nut", False)))
        self.rows("y = 1 p\ny = 1 q", (
            ("2 y", "1 p 1 q", True), ("1 y", "1 p 1 q", False), ("2 y", "1 p 1 q 1 y", False), ("1 y", "1 q", True)))

    def test_two_openings_of_a_kind_and_a_kind_in_two(self):
        self.rows("case = 2 pack\ncase = 4 cup\npack = 2 cup", (
            ("1 case", "4 cup", True), ("1 case", "2 cup 1 pack", True), ("1 case", "3 cup 1 pack", False)))
        self.rows("w = 1 y 1 z\nw = 1 v\nv = 1 q 1 x\nq = 1 t 1 z\nq = 1 u 1 y\ny = 1 t 1 x\nz = 1 u 1 x", (
            ("1 w", "1 q 1 x", True), ("1 w", "1 t 1 u 2 x", True), ("1 w", "1 t 1 x 1 z", True),
            ("1 w", "2 t", False), ("1 w", "1 q 2 x", False), ("2 w", "2 t 2 u 4 x", True)))
        self.rows("a = 1 b 1 c\na = 2 d\nb = 1 d\nb = 1 e\nc = 1 d\nc = 1 e\nc = 1 f", (
            ("4 a", "3 d 2 e 3 f", True), ("4 a", "2 d 2 e 4 f", True), ("4 a", "5 f", False), ("4 a", "8 d", True),
            ("4 a", "8 e", True), ("4 a", "9 e", False)))

    def test_what_is_there_is_not_opened(self):
        for text in ("box = 3 pair\npair = 2 cup", "box = 3 pair\nbox = 1 cup\npair = 2 cup",
                     "box = 1 cup\nbox = 2 tea"):
            for stock, ask in (("2 box 3 cup", "2 box 3 cup"), ("2 box 3 cup", "1 box"), ("2 box", "-")):
                self.assertEqual(plan_for(Book.of(text), Lot.of(stock), Lot.of(ask)), Plan())

    def test_a_kind_that_is_opened_and_asked(self):
        self.rows("a = 2 b\na = 1 c\nb = 3 c", (
            ("2 a", "1 a 6 c", True), ("2 a", "1 a 7 c", False), ("2 a", "2 a", True), ("2 a 1 b", "1 b 12 c", True),
            ("2 a 1 b", "1 b 13 c", False), ("2 a 1 b", "3 b 6 c", True), ("2 a 1 b", "1 a 4 b", False)))

    def test_it_is_asked_for_no_order_of_the_kinds(self):
        for names in itertools.permutations("abcd"):
            top, second, third, last = names
            lines = f"{top} = 2 {second}\n{second} = 2 {third}\n{third} = 2 {last}"
            stock, lesser = Lot(((top, 1),)), Lot(((last, 1), (third, 1))).text()
            for text in (lines, lines + f"\n{top} = 1 {last}", lines + f"\n{top} = {lesser}\n{third} = 1 x"):
                self.check(Book.of(text), stock, Lot(((last, 8),)), True)
                self.check(Book.of(text), stock, Lot(((last, 9),)), False)
                self.check(Book.of(text), stock, Lot(((last, 4), (second, 1))), True)
                self.check(Book.of(text), stock, Lot(((last, 5), (second, 1))), False)

    def test_small_books_against_each_way_to_open(self):
        chance, books = brute.books(6, 700)
        told = []
        for book in books:
            for _ in range(2):
                stock = brute.lot_of(chance, book, 16)
                ask = brute.ask_of(chance, book, stock)
                given = brute.gives(brute.rows_of(book), stock.pairs(), ask.pairs())
                self.check(book, stock, ask, given)
                told.append((given, book.is_plain()))
        self.assertGreater(min(told.count(row) for row in itertools.product((True, False), repeat=2)), 100)

    def test_stocks_of_the_worth_32(self):
        book = Book.of("a = 1 x\na = 1 y\na = 1 z\nb = 1 w\nb = 1 x\nb = 1 z\nc = 1 y\nc = 1 z")
        stock = Lot.of("6 a 5 b 5 c")
        self.check(book, stock, Lot.of("5 w 6 x 5 y"), True)
        self.check(book, stock, Lot.of("3 w 4 x 4 y 5 z"), True)
        self.check(book, stock, Lot.of("6 w"), False)
        self.check(book, stock, Lot.of("5 w 7 x"), False)
        self.check(book, stock, Lot.of("1 b 5 w"), False)


class GreatNumbersTest(unittest.TestCase):
    def check(self, book, stock, ask):
        """Whether the stock gives the ask, but no kind once more."""
        plan = plan_for(book, stock, ask)
        self.assertTrue(plan.fits(book))
        self.assertTrue(ask.within(plan.after(stock)))
        for opening in plan.openings():
            self.assertFalse(lies_behind(plan - Plan(((opening, 1),)), stock, ask))
        self.assertIs(gives(book, stock, ask), True)
        return plan

    def refuse(self, book, stock, ask):
        self.assertIs(gives(book, stock, ask), False)
        self.assertIsNone(plan_for(book, stock, ask))

    def test_a_chain(self):
        lines = [f"{one} = {GREAT} {other}" for one, other in zip("abcdefg", "bcdefgh")]
        book, stock = Book.of("\n".join(lines)), Lot((("a", GREAT),))
        ask = Lot((("h", GREAT ** 8),))
        plan = self.check(book, stock, ask)
        self.assertEqual([plan[row] for row in book.openings()], [GREAT ** at for at in range(1, 8)])
        self.refuse(book, stock, ask + Lot.of("1 h"))
        plan = self.check(book, stock, Lot((("h", GREAT ** 7 + 1),)))
        self.assertEqual([plan[row] for row in book.openings()], [2] + [GREAT ** at + 1 for at in range(1, 7)])

    def test_one_opening_for_each_kind_and_kinds_in_two(self):
        book = Book.of(f"a = {GREAT} b {GREAT} c\nb = {GREAT} c 1 d\nc = {GREAT} d")
        stock = Lot((("a", GREAT), ("d", 3)))
        most = GREAT ** 2 * (GREAT + 1) * GREAT + GREAT ** 2 + 3
        plan = self.check(book, stock, Lot((("d", most),)))
        self.assertEqual([plan[row] for row in book.openings()], [GREAT, GREAT ** 2, GREAT ** 2 * (GREAT + 1)])
        self.refuse(book, stock, Lot((("d", most + 1),)))
        self.check(book, stock, Lot((("d", 10 ** 30), ("b", 5), ("a", 7))))

    def test_no_kind_in_two_openings(self):
        book = Book.of(f"a = {GREAT} b\na = 7 c\na = 1 e\nc = {GREAT} d")
        stock = Lot((("a", GREAT), ("b", 1)))
        ask = Lot((("b", GREAT + 2), ("c", 8), ("d", GREAT * 6 + 1), ("e", GREAT - 5)))
        plan = self.check(book, stock, ask)
        self.assertEqual([plan[row] for row in book.openings()], [2, 3, GREAT - 5, 7])
        self.refuse(book, stock, ask + Lot.of("1 e"))
        self.check(book, stock, ask + Lot.of("5 c"))
        self.refuse(book, stock, ask + Lot.of("7 c"))
        self.check(book, stock, ask + Lot((("b", GREAT - 1),)))
        self.refuse(book, stock, ask + Lot((("b", GREAT),)))
        self.refuse(book, stock, Lot((("other", 1),)))

    def test_needed_though_the_stock_does_not_give_the_ask(self):
        book = Book.of("box = 3 pair\npair = 2 cup")
        plan = needed(book, Lot.of("2 box"), Lot.of("13 cup"))
        self.assertEqual([plan[row] for row in book.openings()], [3, 7])
        self.assertEqual(needed(book, Lot.of("9 cup"), Lot.of("9 cup 1 hat")), Plan())

    def test_asks_beyond_a_small_stock(self):
        book = Book.of("case = 2 pack\ncase = 4 cup\npack = 2 cup")
        self.refuse(book, Lot.of("4 case"), Lot((("cup", GREAT), ("pack", GREAT))))
        self.refuse(book, Lot.of("4 case"), Lot((("other", GREAT ** 3),)))
