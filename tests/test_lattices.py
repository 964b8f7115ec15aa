"""[11], the first part: where greatest common Lots exist, and where meet and join distribute over each other."""

import unittest

from onceopened.books import Book
from onceopened.errors import Forked
from onceopened.lattices import is_tree, skew, torn
from onceopened.lots import Lot
from onceopened.numbers import forked, join, meet
from onceopened.plans import gives
from onceopened.regrets import shared
from tests import brute

GREAT = 10 ** 12
ROWS = Book.of("y = 1 a 2 k\nz = 3 k\nk = 2 m")
# The openings into p are idle: y is not forked, and p is not shared.
LATENT = Book.of("y = 4 p\ny = 2 x\nx = 2 p")
FORKS = Book.of("z = 1 y\nz = 1 w\nb = 1 c\nb = 2 d\nb = 1 e\nm = 1 c")


def texts(lots):
    return [lot.text() for lot in lots]


def new(case, call):
    """Whether each call makes a tuple of Lots of its own."""
    told = texts(call())
    found = call()
    case.assertIsInstance(found, tuple)
    for many, lot in enumerate(found):
        lot["other"] = many + 1
    case.assertEqual([lot["other"] for lot in found], [many + 1 for many in range(len(found))])
    case.assertEqual(texts(call()), told)


class TornTest(unittest.TestCase):
    def test_none(self):
        for text in ("-", "y = 1 p", "y = 1 p\nz = 1 p", ROWS.text(), LATENT.text()):
            self.assertIsNone(torn(Book.of(text)))

    def test_the_least_two_openings_of_the_least_forked_kind(self):
        for text, expected in (
            ("y = 1 p\ny = 1 q", ["1 y", "1 p 1 q", "1 p", "1 q"]),
            (FORKS.text(), ["1 b", "1 c 2 d", "1 c", "2 d"]),
            ("y = 1 p\ny = 2 p\ny = 1 q 1 r\ny = 3 r", ["1 y", "2 p 1 q 1 r", "2 p", "1 q 1 r"]),
            ("y = 10 p\ny = 1 p 1 q", ["1 y", "11 p 1 q", "1 p 1 q", "10 p"]),
            ("b = 1 c\nb = 2 c\nz = 1 p\nz = 1 q", ["1 z", "1 p 1 q", "1 p", "1 q"]),
        ):
            book = Book.of(text)
            self.assertEqual(texts(torn(book)), expected)
            self.assertEqual(texts(torn(book=book)), expected)
            new(self, lambda: torn(book))
            self.assertEqual(book, Book.of(text))

    def test_great_numbers(self):
        book = Book.of(f"y = {GREAT} p\ny = {GREAT} q")
        self.assertEqual(texts(torn(book)), ["1 y", f"{GREAT} p {GREAT} q", f"{GREAT} p", f"{GREAT} q"])

    def test_small_books(self):
        _, books = brute.books(40, 400, worth=8)
        tried = 0
        for book in books:
            found = torn(book)
            self.assertIs(found is None, forked(book) == [])
            if found is not None:
                tried += 1
                one, other, first, second = found
                rows = brute.rows_of(book)
                for start in (one, other):
                    for part in (first, second):
                        self.assertTrue(brute.gives(rows, start.pairs(), part.pairs()))
                both = brute.given(rows, one.pairs()) & brute.given(rows, other.pairs())
                for bag in both:
                    self.assertFalse(all(brute.gives(rows, bag, part.pairs()) for part in (first, second)))
        self.assertGreater(tried, 100)


class SkewTest(unittest.TestCase):
    def check(self, book):
        """Whether a triple is found exactly if a kind is shared, and does not distribute."""
        found = skew(book)
        self.assertIs(found is None, shared(book) == [])
        if found is not None:
            self.assertIsInstance(found, tuple)
            top, left, right = found
            one = meet(book, top, join(book, left, right))
            other = join(book, meet(book, top, left), meet(book, top, right))
            self.assertNotEqual(one, other)
            self.assertTrue(gives(book, one, other))
            self.assertEqual(texts(skew(book=book)), texts(found))
            new(self, lambda: skew(book))
        return found

    def test_none(self):
        for text in ("-", "y = 2 p", "box = 3 pair\npair = 2 cup", LATENT.text()):
            self.assertIsNone(self.check(Book.of(text)))

    def test_books(self):
        for text in (
            ROWS.text(), "y = 1 p\nz = 1 p", "a = 1 b 1 k\nb = 1 k", "b = 1 a 1 k\na = 1 k", "a = 3 b 1 k\nb = 5 k",
            "a = 1 c\nb = 1 k\nc = 2 b 1 k", "a = 1 b 1 c\nb = 1 d\nc = 1 d\nd = 1 k",
            "a = 1 b 1 k\nb = 1 c 1 k\nc = 1 k", f"a = {GREAT} b {GREAT} k\nb = {GREAT} k",
            f"a = {GREAT} b\nb = {GREAT} c 1 k\nc = {GREAT} k", "a = 4 c\na = 2 b\nb = 2 c\nz = 1 c",
        ):
            book = Book.of(text)
            self.assertIsNotNone(self.check(book), text)
            self.assertEqual(book, Book.of(text))

    def test_forked_ahead_of_all_else(self):
        for text, kind in ((FORKS.text(), "b"), ("y = 1 p\ny = 1 q", "y"), ("y = 1 p\ny = 1 q\nz = 1 p\nc = 1 q", "y")):
            with self.assertRaises(Forked) as caught:
                skew(Book.of(text))
            self.assertEqual(caught.exception.kind, kind)
            self.assertIsInstance(caught.exception, ValueError)

    def test_small_books(self):
        _, books = brute.books(41, 800)
        told = []
        for book in books:
            if forked(book) == []:
                told.append(self.check(book) is None)
            else:
                with self.assertRaises(Forked):
                    skew(book)
        self.assertGreater(min(told.count(True), told.count(False)), 100)

    def test_where_it_is_none_they_distribute(self):
        chance, books = brute.books(42, 500)
        for book in books:
            if is_tree(book):
                top, left, right = (brute.lot_of(chance, book, 12) for _ in range(3))
                self.assertEqual(meet(book, top, join(book, left, right)),
                                 join(book, meet(book, top, left), meet(book, top, right)))
                self.assertEqual(join(book, top, meet(book, left, right)),
                                 meet(book, join(book, top, left), join(book, top, right)))


class TreeTest(unittest.TestCase):
    def test_books(self):
        for text, expected in (
            ("-", True), ("box = 3 pair\npair = 2 cup", True), ("y = 2 p", True), ("y = 1 p\ny = 1 q", False),
            ("y = 1 p\nz = 1 p", False), ("y = 1 p\ny = 1 p 1 q\nz = 1 p", False), (ROWS.text(), False),
            (LATENT.text(), True), ("y = 5 p\ny = 2 x\nx = 2 p", False), ("a = 1 b 1 c\nb = 1 d\nc = 1 d", False),
            (f"a = {GREAT} b\nb = {GREAT} c 9 d", True),
        ):
            book = Book.of(text)
            self.assertIs(is_tree(book), expected)
            self.assertIs(is_tree(book=book), expected)
            self.assertEqual(book, Book.of(text))

    def test_small_books(self):
        chance, books = brute.books(43, 500)
        told = []
        for book in books:
            expected = forked(book) == [] and shared(book) == []
            self.assertIs(is_tree(book), expected)
            told.append(expected)
            if forked(book) == []:
                self.compare(chance, book, expected)
        self.assertGreater(min(told.count(True), told.count(False)), 60)

    def compare(self, chance, book, tree):
        """Exactly in trees meet and join together are both Lots together."""
        one, other = (brute.lot_of(chance, book, 12) for _ in range(2))
        if not tree:
            _, one, other = skew(book)
        self.assertIs(meet(book, one, other) + join(book, one, other) == one + other, tree)
