"""[12]: what was opened, told back by stocks alone."""

import itertools
import math
import unittest

from onceopened.books import Book, Opening
from onceopened.errors import Doubted, Short, Unexplained
from onceopened.lots import Lot
from onceopened.plans import Plan
from onceopened.retold import doubt, retold
from tests import brute

GREAT = 10 ** 12
BOX = Book.of("box = 3 pair\npair = 2 cup")
FORKS = Book.of("y = 1 p\ny = 1 q\nz = 1 p\nz = 1 q")


def lot(text):
    return Lot.of(text)


def told(plan):
    return "; ".join(f"{plan[opening]} x {opening.text()}" for opening in plan.openings()) or "-"


class DoubtTest(unittest.TestCase):
    def check(self, book):
        """Whether a doubt, if there is one, is what it should be."""
        found = doubt(book)
        if found is not None:
            self.assertIsInstance(found, tuple)
            stock, first, second = found
            factors = [plan[row] for plan in (first, second) for row in plan.openings()]
            self.assertEqual(math.gcd(*factors), 1)
            for plan, other in ((first, second), (second, first)):
                self.assertGreater(len(plan), 0)
                self.assertTrue(plan.fits(book))
                self.assertEqual([row for row in plan.openings() if other[row] > 0], [])
            self.assertEqual(first.after(stock), second.after(stock))
            for kind in stock.kinds():
                with self.assertRaises(Short):
                    first.after(stock - brute.one_of(kind))
                with self.assertRaises(Short):
                    second.after(stock - brute.one_of(kind))
            again = doubt(book=book)
            self.assertEqual(again, found)
            again[0]["other"] = 5
            self.assertEqual(doubt(book), found)
        return found

    def test_none(self):
        for text in ("-", "box = 3 pair\npair = 2 cup", "y = 1 p\ny = 1 q", "gift = 2 cup 1 tea\nsix = 6 cup",
                     "y = 1 p\ny = 1 q\nz = 1 p", "y = 1 p\ny = 2 p\ny = 1 q", "a = 1 b 1 c\nb = 1 d\nc = 1 d\nd = 1 e",
                     f"a = {GREAT} b {GREAT - 1} c\nb = {GREAT} c"):
            book = Book.of(text)
            self.assertIsNone(self.check(book), text)
            self.assertEqual(book, Book.of(text))

    def test_stocks(self):
        for text, stock, numbers in (
            (FORKS.text(), "1 y 1 z", [1, 1, 1, 1]), ("y = 2 x\ny = 12 p\nx = 6 p", "1 y", [1, 1, 2]),
            ("y = 1 x\ny = 1 p\nx = 1 p", "1 y", [1, 1, 1]), ("y = 1 p\ny = 3 p\ny = 5 p", "2 y", [1, 1, 2]),
            ("y = 1 p\ny = 2 p\ny = 4 p", "3 y", [1, 2, 3]),
            ("y = 1 p\ny = 3 p\nx = 1 p\nx = 5 p", "1 x 2 y", [1, 1, 2, 2]),
            ("y = 2 p\ny = 5 p\nz = 1 q\nz = 3 q 1 y\nz = 6 q 2 y", "15 z", [2, 5, 6, 9, 15]),
        ):
            book = Book.of(text)
            found = self.check(book)
            self.assertEqual(found[0].text(), stock)
            self.assertEqual(sorted(plan[row] for plan in found[1:] for row in plan.openings()), numbers)
            self.assertEqual(book, Book.of(text))

    def test_idle_openings_count(self):
        book = Book.of("four = 4 one\nfour = 2 two\ntwo = 2 one")
        self.assertEqual(self.check(book)[0], lot("1 four"))

    def test_plain_books_are_never_in_doubt(self):
        for book in brute.books(60, 400)[1]:
            if book.is_plain():
                self.assertIsNone(doubt(book))

    def test_small_books_against_plans_with_small_numbers(self):
        _, books = brute.books(61, 300)
        doubts = 0
        for book in books:
            found = self.check(book)
            doubts += found is not None
            if found is None and len(book) <= 6:
                seen = set()
                for row in itertools.product(range(3), repeat=len(book)):
                    change = self.change(book, row)
                    self.assertNotIn(change, seen)
                    seen.add(change)
        self.assertGreater(min(doubts, 300 - doubts), 40)

    def change(self, book, row):
        counts = {}
        for opening, many in zip(book.openings(), row):
            counts[opening.kind] = counts.get(opening.kind, 0) - many
            for kind, each in opening.contents.pairs():
                counts[kind] = counts.get(kind, 0) + each * many
        return brute.bag_of(counts)


class RetoldTest(unittest.TestCase):
    def check(self, book, before, served, after, expected):
        args = lot(before), lot(served), lot(after)
        self.assertEqual(told(retold(book, *args)), expected)
        again = retold(after=args[2], served=args[1], before=args[0], book=book)
        self.assertEqual(again, retold(book, *args))
        self.assertEqual(again.after(args[0]), args[1] + args[2])
        self.assertEqual(tuple(each.text() for each in args), (before, served, after))

    def unexplained(self, book, before, served, after):
        args = lot(before), lot(served), lot(after)
        with self.assertRaises(Unexplained):
            retold(book, *args)
        with self.assertRaises(ValueError):
            retold(book=book, before=args[0], served=args[1], after=args[2])
        self.assertEqual(tuple(each.text() for each in args), (before, served, after))

    def test_boxes(self):
        self.check(BOX, "2 box", "3 cup 1 pair", "1 box 1 cup", "1 x box = 3 pair; 2 x pair = 2 cup")
        self.check(BOX, "2 box", "-", "2 box", "-")
        self.check(BOX, "2 box", "2 box", "-", "-")
        self.check(BOX, "-", "-", "-", "-")
        self.check(BOX, "2 box", "12 cup", "-", "2 x box = 3 pair; 6 x pair = 2 cup")
        self.check(BOX, "2 box", "-", "12 cup", "2 x box = 3 pair; 6 x pair = 2 cup")
        self.check(BOX, "1 hat 1 pair", "1 cup 1 hat", "1 cup", "1 x pair = 2 cup")
        self.check(Book(), "2 hat", "1 hat", "1 hat", "-")
        self.check(Book(), "-", "-", "-", "-")

    def test_forked_kinds(self):
        book = Book.of("y = 1 p\ny = 1 q\nz = 1 p")
        self.check(book, "3 y 1 z", "2 p", "1 q 1 z", "2 x y = 1 p; 1 x y = 1 q")
        self.check(book, "3 y 1 z", "2 p", "1 q 1 y", "1 x y = 1 p; 1 x y = 1 q; 1 x z = 1 p")

    def test_unexplained(self):
        self.unexplained(BOX, "2 box", "-", "1 box")
        self.unexplained(BOX, "2 box", "-", "3 box")
        self.unexplained(BOX, "2 box", "1 cup", "1 box 2 pair")
        self.unexplained(BOX, "2 box", "1 hat", "2 box")
        self.unexplained(BOX, "2 box 1 hat", "-", "2 box")
        self.unexplained(BOX, "2 box", "-", "-")
        self.unexplained(Book(), "2 hat", "1 hat", "-")
        self.unexplained(Book(), "-", "-", "1 hat")

    def test_no_opening_is_done_backwards_or_in_part(self):
        self.unexplained(BOX, "2 cup", "-", "1 pair")
        self.unexplained(BOX, "3 pair", "1 box", "-")
        self.unexplained(BOX, "1 box 3 pair", "2 box", "-")
        self.unexplained(Book.of("y = 2 p 2 q\ny = 2 p 4 q\nz = 2 p 2 q"), "1 y", "2 p", "3 q")
        # Half of each opening would explain it.
        halves = Book.of("y = 2 p\ny = 2 q\ny = 1 r")
        self.unexplained(halves, "1 y", "1 p", "1 q")
        self.check(halves, "2 y", "2 p", "2 q", "1 x y = 2 p; 1 x y = 2 q")
        # So would one and a half of the one less half of the other one.
        self.unexplained(Book.of("y = 2 p\ny = 4 p"), "1 y", "1 p", "-")
        self.unexplained(Book.of("y = 2 p\ny = 4 p"), "1 y", "6 p", "-")
        self.check(Book.of("y = 2 p\ny = 4 p"), "2 y", "5 p", "1 p", "1 x y = 2 p; 1 x y = 4 p")

    def test_doubted_ahead_of_unexplained(self):
        for before, served, after in (("2 y", "-", "5 hat"), ("2 y", "2 y", "-"), ("1 y", "1 p", "-"), ("-", "-", "-")):
            args = lot(before), lot(served), lot(after)
            with self.assertRaises(Doubted):
                retold(FORKS, *args)
            with self.assertRaises(ValueError):
                retold(book=FORKS, before=args[0], served=args[1], after=args[2])
            self.assertEqual(tuple(each.text() for each in args), (before, served, after))
        with self.assertRaises(Doubted):
            retold(Book.of("four = 4 one\nfour = 2 two\ntwo = 2 one"), lot("1 four"), lot("1 two"), lot("2 one"))

    def test_great_numbers(self):
        names = "abcdefgh"
        chain = Book.of("\n".join(f"{one} = {GREAT} {other}" for one, other in zip(names, names[1:])))
        stock = Lot((("a", GREAT),))
        plan = retold(chain, stock, Lot((("h", GREAT ** 8 - 5),)), lot("5 h"))
        self.assertEqual([plan[row] for row in chain.openings()], [GREAT ** at for at in range(1, 8)])
        with self.assertRaises(Unexplained):
            retold(chain, stock, Lot((("h", GREAT ** 8 - 5),)), lot("4 h"))
        wide = Book([Opening("a", Lot(((one, GREAT - at), ))) for at, one in enumerate("bcd")])
        done = Plan([(row, GREAT + at) for at, row in enumerate(wide.openings())])
        start = Lot((("a", 4 * GREAT),))
        self.assertEqual(retold(wide, start, Lot(), done.after(start)), done)

    def test_small_books(self):
        """What was done is told back, whenever parts were served; and nothing else is explained by it."""
        chance, books = brute.books(62, 700)
        told_of, wrong = 0, 0
        for book in books:
            if doubt(book) is None:
                start = brute.lot_of(chance, book, 10)
                left, served, done = start, Lot(), Plan()
                for _ in range(4):
                    rows = [row for row in book.openings() if row.kind in left]
                    if rows and chance.random() < 0.8:
                        one = Plan(((chance.choice(rows), 1),))
                        left, done = one.after(left), done + one
                    elif len(left) > 0:
                        part = brute.one_of(chance.choice(left.kinds()))
                        left, served = left - part, served + part
                self.assertEqual(retold(book, start, served, left), done)
                told_of += len(done) > 0
                wrong += self.spoiled(chance, book, start, served, left)
        self.assertGreater(min(told_of, wrong), 100)

    def spoiled(self, chance, book, start, served, left):
        """Whether what is left cannot be explained any more with one piece more or less."""
        other = left + brute.one_of(chance.choice("abcdef"))
        explained = brute.added(served.pairs(), other.pairs()) in brute.becomes(brute.rows_of(book), start.pairs())
        if explained:
            self.assertEqual(retold(book, start, served, other).after(start), served + other)
        else:
            with self.assertRaises(Unexplained):
                retold(book, start, served, other)
        return not explained
