"""[13], the second part: safe and unsafe stocks, and promises."""

import itertools
import unittest

from onceopened.books import Book
from onceopened.lots import Lot
from onceopened.regrets import Regret, is_regret, regret, shared
from onceopened.remains import becomes, leftovers
from onceopened.stocks import holds, unsafe
from tests import brute

GREAT = 10 ** 12
CASE = Book.of("case = 1 cup 1 pack\npack = 1 cup 1 lid")
DEEP = Book.of("w = 1 y 1 z\nw = 1 v\nv = 1 q 1 x\nq = 1 t 1 z\nq = 1 u 1 y\ny = 1 t 1 x\nz = 1 u 1 x")


def lot(text):
    return Lot.of(text)


class UnsafeTest(unittest.TestCase):
    def check(self, book, stock):
        """Whether what is found is a Regret of the Book with this stock; and whether anything is."""
        kept = stock.pairs()
        found = unsafe(book, stock)
        if found is not None:
            self.assertIsInstance(found, Regret)
            self.assertEqual(found.stock, stock)
            self.assertTrue(is_regret(book, stock, found.ask, found.first, found.second))
            self.assertGreater(len(leftovers(book, stock, found.ask)), 1)
            self.assertTrue(all(plan.fits(book) for plan in found.plans()))
            again = unsafe(stock=stock, book=book)
            for name in ("stock", "ask", "first", "second"):
                self.assertEqual(getattr(found, name), getattr(again, name))
        self.assertEqual(stock.pairs(), kept)
        return found is not None

    def test_stocks(self):
        for book, text, expected in (
            (CASE, "1 case 1 pack", True), (CASE, "2 case", True), (CASE, "1 case 2 cup", False), (CASE, "-", False),
            (CASE, "1 case", False), (CASE, "3 pack", False), (CASE, "1 case 1 pack 4 tea", True),
            (CASE, "1 case 1 cup 1 pack", True), (CASE, "9 cup 1 tea", False),
            (DEEP, "1 y 1 z", True), (DEEP, "1 w", False), (DEEP, "1 v", False), (DEEP, "1 q 1 x", False),
            (DEEP, "1 q", False), (DEEP, "1 q 1 y", True), (DEEP, "1 w 1 y 1 z", True),
            (Book(), "3 cup", False), (Book.of("y = 1 p\ny = 1 q"), "4 y", False),
            (Book.of("y = 1 p 1 q\ny = 2 p"), "1 y", True),
            (Book.of("y = 1 p\ny = 1 q\nz = 1 p\nz = 1 q"), "3 y", False),
            (Book.of("y = 1 p\ny = 1 q\nz = 1 p\nz = 1 r"), "1 y 1 z", True),
        ):
            self.assertIs(self.check(book, lot(text)), expected, text)

    def test_the_stock_is_copied(self):
        stock = lot("1 case 1 pack")
        found = unsafe(CASE, stock)
        stock += lot("5 hat")
        self.assertEqual(found.stock, lot("1 case 1 pack"))

    def test_idle_openings_change_nothing(self):
        self.assertIs(self.check(Book.of("four = 4 one\nfour = 2 two\ntwo = 2 one"), lot("1 four 1 two")), False)
        self.assertIs(self.check(CASE | Book.of("case = 1 pack\ncase = 2 cup 1 lid"), lot("1 case 1 pack")), True)

    def test_openings_that_are_too_great_for_the_stock(self):
        book = Book.of(f"a = {GREAT} b\nc = {GREAT} b\nb = 1 k 1 m\nd = 1 k 1 n")
        self.assertIs(self.check(book, lot("2 b 1 d")), True)
        self.assertIs(self.check(book, lot("3 b")), False)

    def test_where_no_kind_is_shared_all_are_safe(self):
        chance, books = brute.books(70, 300)
        for book in books:
            if shared(book) == []:
                self.assertIs(self.check(book, brute.lot_of(chance, book, 10)), False)
            else:
                found = regret(book)
                if book.worth(found.stock) <= 10:
                    self.assertIs(self.check(book, found.stock), True)

    def test_small_books_against_all_asks(self):
        chance, books = brute.books(71, 1200, worth=8)
        told = []
        for book in books:
            stock = brute.lot_of(chance, book, 8)
            expected = brute.is_unsafe(brute.rows_of(book), stock.pairs())
            self.assertIs(self.check(book, stock), expected, (book.text(), stock.text()))
            told.append(expected)
        self.assertGreater(min(told.count(True), told.count(False)), 60)

    def test_the_criterion_of_the_document(self):
        """For any two Lots that a safe stock becomes there is a third one that has what both have, and gives both."""
        chance, books = brute.books(72, 250, worth=8)
        for book in books:
            rows = brute.rows_of(book)
            stock = brute.lot_of(chance, book, 8)
            lots = becomes(book, stock)
            pairs = itertools.combinations(lots, 2)
            good = all(any((one & other).within(third) and brute.gives(rows, third.pairs(), one.pairs())
                           and brute.gives(rows, third.pairs(), other.pairs()) for third in lots)
                       for one, other in pairs)
            self.assertIs(self.check(book, stock), not good)

    def test_more_on_an_unsafe_stock(self):
        chance, books = brute.books(73, 400, worth=8)
        tried = 0
        for book in books:
            stock = brute.lot_of(chance, book, 8)
            more = stock + brute.one_of(chance.choice("abcdef"))
            if book.worth(more) <= 10 and self.check(book, stock):
                tried += 1
                self.assertIs(self.check(book, more), True)
        self.assertGreater(tried, 15)


class HoldsTest(unittest.TestCase):
    def check(self, book, stock, promises, expected):
        start, kept = lot(stock), [lot(text) for text in promises]
        for order in itertools.permutations(kept):
            self.assertIs(holds(book, start, list(order)), expected)
        self.assertIs(holds(promises=tuple(kept), stock=start, book=book), expected)
        self.assertEqual((start.text(), [each.text() for each in kept]), (stock, promises))

    def test_no_promises(self):
        self.check(CASE, "-", [], True)
        self.check(CASE, "1 case", [], True)
        self.check(CASE, "-", ["-"], True)
        self.check(CASE, "-", ["-", "-"], True)

    def test_one_promise_is_held_if_the_stock_gives_it(self):
        self.check(CASE, "1 case 1 pack", ["1 case 1 cup"], True)
        self.check(CASE, "1 case 1 pack", ["1 cup 2 pack"], True)
        self.check(CASE, "1 case 1 pack", ["1 case 2 cup"], False)
        self.check(CASE, "1 case 1 pack", ["4 cup"], False)
        self.check(CASE, "1 case 1 pack", ["3 cup"], True)
        self.check(CASE, "1 case 1 pack", ["1 hat"], False)
        self.check(CASE, "-", ["1 cup"], False)

    def test_several_promises(self):
        self.check(CASE, "1 case 1 pack", ["1 case 1 cup", "1 cup 2 pack"], False)
        self.check(CASE, "1 case 1 pack", ["1 case", "1 cup 2 pack"], True)
        self.check(CASE, "1 case 1 cup 1 pack", ["1 case 1 cup", "1 cup 2 pack"], True)
        self.check(CASE, "1 case 1 pack", ["1 case 1 cup", "1 case 1 cup"], True)
        self.check(CASE, "1 case 1 pack", ["1 cup 2 pack", "2 pack", "1 cup"], True)
        self.check(CASE, "1 case 1 pack", ["1 case 1 cup", "1 cup 2 pack", "4 cup"], False)
        self.check(CASE, "2 case", ["1 case 1 cup 1 pack", "2 case", "1 cup 1 pack"], True)
        self.check(CASE, "1 case 1 pack", ["1 case 1 pack", "3 cup 2 lid", "1 hat"], False)
        self.check(DEEP, "1 y 1 z", ["1 t 1 x 1 z", "1 u 1 x 1 y"], False)
        self.check(DEEP, "1 w", ["1 t 1 x 1 z", "1 u 1 x 1 y"], True)
        self.check(DEEP, "1 w", ["1 t 1 x 1 z", "1 u 1 x 1 y", "1 q 1 x"], True)
        self.check(DEEP, "1 w", ["1 y 1 z", "1 q 1 x"], True)

    def test_the_second_ask_can_be_too_much(self):
        # Whatever is opened for the first p: behind the second one two promises are left, of which one fails.
        book = Book.of("a = 1 p 1 q\nb = 1 p 1 r\nc = 1 p 1 s")
        self.check(book, "1 a 1 b 1 c", ["1 a 1 p", "1 b 1 p", "1 c 1 p"], False)
        self.check(book, "1 a 1 b 1 c", ["1 a 1 p", "1 b 1 p"], True)
        self.check(book, "1 a 1 b 1 c", ["1 a 2 p", "1 b 2 p"], False)
        self.check(book, "1 a 1 b 1 c", ["1 a 1 p", "1 b 2 p"], True)
        self.check(book, "1 a 1 b 1 c", ["1 a 1 q", "1 b 1 r"], False)
        self.check(book, "2 a 1 b 1 c", ["1 a 1 p", "1 b 1 p", "1 c 1 p"], True)

    def test_openings_that_are_too_great_for_the_stock(self):
        book = Book.of(f"a = {GREAT} b\nc = {GREAT} b\nb = 1 k 1 m\nd = 1 k 1 n")
        self.check(book, "1 b 1 d", ["1 b 1 k", "1 d 1 k"], False)
        self.check(book, "2 b 1 d", ["1 b 1 k", "1 d 1 k"], True)

    def test_what_an_unsafe_stock_cannot_hold(self):
        """A keeper that is promised the two rows of a Regret fails at one of them."""
        chance, books = brute.books(74, 300, worth=8)
        tried = 0
        for book in books:
            found = unsafe(book, brute.lot_of(chance, book, 8))
            if found is not None:
                rows = [found.ask + found.first, found.ask + found.second]
                self.assertEqual([holds(book, found.stock, [row]) for row in rows], [True, True])
                if max(abs(row) for row in rows) <= 5:
                    tried += 1
                    expected = brute.holds(brute.rows_of(book), found.stock.pairs(), [row.pairs() for row in rows])
                    self.assertIs(holds(book, found.stock, rows), expected)
                    self.assertIs(expected, False)
        self.assertGreater(tried, 10)

    def test_small_books_against_all_keepers(self):
        chance, books = brute.books(75, 1500, worth=7)
        told = []
        for book in books:
            rows = brute.rows_of(book)
            stock = brute.lot_of(chance, book, 7)
            if unsafe(book, stock) is None and chance.random() < 0.9:
                continue
            bags = sorted(brute.becomes(rows, stock.pairs()))
            promises = []
            for _ in range(chance.randint(2, 3)):
                pieces = [kind for kind, many in chance.choice(bags) for _ in range(many)]
                chance.shuffle(pieces)
                promises.append(Lot([(kind, 1) for kind in pieces[:4]]))
            expected = brute.holds(rows, stock.pairs(), [promise.pairs() for promise in promises])
            self.assertIs(holds(book, stock, promises), expected)
            told.append(expected)
        self.assertGreater(min(told.count(True), told.count(False)), 25)
