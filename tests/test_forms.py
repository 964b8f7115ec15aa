"""[7]: idle Openings, forms, and Books that give the same."""

import itertools
import unittest

from onceopened.books import Book, Opening
from onceopened.lots import Lot
from onceopened.forms import alike, covers, form, idle, parted
from onceopened.plans import gives
from tests import brute

GREAT = 10 ** 12


def lines(openings):
    return [opening.text() for opening in openings]


class IdleTest(unittest.TestCase):
    def check(self, text, expected):
        book = Book.of(text)
        found = idle(book)
        self.assertIsInstance(found, list)
        self.assertEqual(lines(found), expected)
        self.assertEqual(form(book), book - Book([Opening(row.kind, row.contents) for row in found]))
        self.assertEqual(book.text(), text)
        self.assertEqual((idle(form(book)), form(form(book))), ([], form(book)))

    def test_books_without_idle_openings(self):
        for text in ("-", "box = 3 pair\npair = 2 cup", "y = 1 p\ny = 1 q", "gift = 2 cup 1 tea\nsix = 6 cup",
                     "y = 1 p\ny = 1 q\nz = 1 p\nz = 1 q", "case = 1 cup 1 pack\npack = 2 cup",
                     "a = 1 b 1 c\na = 2 b\na = 2 c", "a = 1 b\na = 2 c\nb = 1 c"):
            self.check(text, [])

    def test_what_another_opening_contains_or_comes_to(self):
        self.check("case = 4 cup\ncase = 2 pack\npack = 2 cup", ["case = 4 cup"])
        self.check("case = 5 cup\ncase = 2 pack\npack = 2 cup", [])
        self.check("a = 1 b\na = 2 b", ["a = 1 b"])
        self.check("a = 1 b\na = 1 b 1 c\na = 1 c", ["a = 1 b", "a = 1 c"])
        self.check("a = 1 b 1 c\na = 1 b 2 c\na = 2 b 1 c", ["a = 1 b 1 c"])

    def test_what_only_idle_openings_lead_to_is_idle_too(self):
        # The third one is given by the second one, and this by the first one.
        self.check("a = 1 b\na = 1 c\na = 1 d\nb = 1 c\nc = 1 d", ["a = 1 c", "a = 1 d"])
        # What a gives from c needs the idle opening of b or the other one: both are looked at.
        self.check("a = 1 b\na = 1 d\nb = 1 c\nb = 1 d\nc = 1 d", ["a = 1 d", "b = 1 d"])

    def test_only_the_same_kind_counts(self):
        self.check("a = 1 c\nb = 2 c", [])
        self.check("a = 1 b\na = 1 d\nb = 1 c\nc = 1 d\nx = 1 d", ["a = 1 d"])

    def test_several_ascending(self):
        self.check("b = 1 x\nb = 2 x\nb = 3 x\nz = 1 y\nz = 4 y", ["b = 1 x", "b = 2 x", "z = 1 y"])

    def test_plain_books_with_great_numbers(self):
        for text in (f"a = {GREAT} b\nb = {GREAT} c\nc = {GREAT} d", f"a = {GREAT} b {GREAT} c\nb = {GREAT} c",
                     f"a = {GREAT} b\na = 1 c\nb = {GREAT} d\nb = {GREAT} e"):
            self.check(text, [])
            self.assertEqual(form(Book.of(text)), Book.of(text))

    def test_what_is_returned_is_new(self):
        book = Book.of("a = 1 b\na = 2 b")
        idle(book).clear()
        kept = form(book)
        kept |= Book.of("x = 1 y")
        self.assertEqual((lines(idle(book)), form(book).text()), (["a = 1 b"], "a = 2 b"))
        self.assertEqual(book.text(), "a = 1 b\na = 2 b")

    def test_small_books_against_each_way_to_open(self):
        _, books = brute.books(7, 600)
        for book in books:
            rows = brute.rows_of(book)
            expected = [one.text() for one in book.openings() if any(
                brute.gives(rows, other.contents.pairs(), one.contents.pairs())
                for other in book.openings() if other.kind == one.kind and other != one)]
            with self.subTest(book=book.text()):
                self.check(book.text(), expected)
            if book.is_plain():
                self.assertEqual(expected, [])


class CoversTest(unittest.TestCase):
    def check(self, one, other, covered, back):
        one, other = Book.of(one), Book.of(other)
        self.assertIs(covers(one, other), covered)
        self.assertIs(covers(other, one), back)
        self.assertIs(covers(book=one, other=other), covered)
        self.assertIs(alike(one, other), covered and back)
        self.assertIs(alike(one=other, other=one), covered and back)

    def test_books(self):
        case = "case = 2 pack\npack = 2 cup"
        self.check("-", "-", True, True)
        self.check("-", "a = 1 b", False, True)
        self.check(case, case, True, True)
        self.check(case, case + "\ncase = 4 cup", True, True)
        self.check(case, case + "\ncase = 5 cup", False, True)
        self.check(case, "case = 4 cup", True, False)
        self.check(case, "pack = 1 cup\ncase = 1 cup 1 pack", True, False)
        self.check(case, "pack = 2 cup\ncase = 2 cup 1 pack", True, False)
        self.check("a = 1 b", "a = 1 c", False, False)
        self.check("a = 1 b", "b = 1 a", False, False)
        self.check("a = 1 b", "c = 1 d", False, False)
        self.check("y = 1 p\ny = 1 q", "y = 1 p", True, False)
        self.check("y = 1 p\ny = 1 q", "y = 1 p 1 q", False, True)

    def test_great_numbers_beside_a_book_that_is_not_plain(self):
        plain, other = f"a = {GREAT} b\nb = {GREAT} c", "a = 1 c\na = 2 b\nb = 1 c"
        self.check(plain, other, True, False)
        self.check(plain, f"a = {GREAT ** 2} c", True, False)
        self.check(plain, f"a = {GREAT ** 2 + 1} c", False, False)

    def test_neither_book_is_changed(self):
        texts = ("case = 4 cup\ncase = 2 pack\npack = 2 cup", "case = 2 pack\npack = 1 cup")
        one, other = map(Book.of, texts)
        for call in (covers, alike, parted):
            call(one, other)
            call(other, one)
        self.assertEqual((one.text(), other.text()), texts)

    def test_covers_is_about_all_stocks(self):
        """A Book covers another one if it gives what the other one gives, tried with stocks of up to two pieces."""
        chance, books = brute.books(8, 150, kinds="abcd")
        told = []
        for one in books:
            other = Book([row for row in one.openings() if chance.random() < 0.6])
            if chance.random() < 0.5:
                other = brute.book_of(chance, 10, "abcd")
            for book, second in ((one, other), (other, one)):
                rows, others = brute.rows_of(book), brute.rows_of(second)
                stocks = [brute.bag_of({kind: names.count(kind) for kind in names}) for many in (1, 2)
                          for names in itertools.combinations_with_replacement("abcd", many)]
                covered = all(brute.gives(rows, stock, bag) for stock in stocks
                              for bag in brute.becomes(others, stock))
                self.assertIs(covers(book, second), covered, (book.text(), second.text()))
                told.append(covered)
        self.assertGreater(min(told.count(True), told.count(False)), 50)


class PartedTest(unittest.TestCase):
    def check(self, one, other, expected):
        one, other = Book.of(one), Book.of(other)
        for found in (parted(one, other), parted(other, one), parted(one=one, other=other)):
            if expected is None:
                self.assertIsNone(found)
            else:
                self.assertIsInstance(found, Opening)
                self.assertEqual(found.text(), expected)

    def test_books(self):
        self.check("-", "-", None)
        self.check("-", "a = 1 b", "a = 1 b")
        self.check("b = 1 c", "a = 1 b\nb = 1 c", "a = 1 b")
        self.check("b = 1 c\nz = 1 b", "a = 1 b\nb = 1 c", "a = 1 b")
        self.check("z = 1 b", "z = 1 c", "z = 1 b")
        self.check("a = 10 b", "a = 9 b", "a = 10 b")
        self.check("case = 2 pack\npack = 2 cup", "case = 2 pack\ncase = 4 cup\npack = 2 cup", None)
        self.check("case = 1 cup 1 pack\npack = 1 cup", "case = 2 pack\npack = 1 cup", "case = 2 pack")

    def test_openings_that_both_give_do_not_part(self):
        # The least opening of both forms is given by both, though only one of them has it.
        self.check("a = 1 c\na = 1 d", "a = 1 b\na = 1 d\nb = 1 c", "a = 1 b")
        self.check("a = 1 b 1 c\nb = 1 c", "a = 2 b\nb = 1 c\nz = 1 c", "a = 2 b")
        self.check("a = 2 c\nb = 1 c\nz = 1 x", "a = 2 c\nb = 1 c", "z = 1 x")

    def test_idle_openings_do_not_count(self):
        # That the least opening is idle where it stands; the books are parted by the next one.
        self.check("a = 1 b\na = 2 b", "a = 3 b", "a = 3 b")
        self.check("a = 1 b\na = 2 b\nc = 1 d", "x = 1 y", "a = 2 b")

    def test_books_that_are_ringed_together(self):
        self.check("a = 1 b", "b = 1 a", "a = 1 b")
        self.check("b = 1 c\nc = 1 a", "a = 1 b\nc = 1 a", "a = 1 b")

    def test_great_numbers(self):
        self.check(f"a = {GREAT} b\nb = {GREAT} c", f"a = {GREAT} b\nb = {GREAT - 1} c", f"b = {GREAT} c")

    def test_small_books(self):
        chance, books = brute.books(9, 400, kinds="abcd")
        told = []
        for one, other in zip(books, books[1:] + books[:1]):
            if chance.random() < 0.5:
                other = form(one) if chance.random() < 0.5 else Book(one.openings()[1:])
            same = form(one) == form(other)
            told.append(same)
            self.assertIs(alike(one, other), same)
            self.assertIs(covers(one, other) and covers(other, one), same)
            rows = sorted([row.kind, row.contents.pairs()] for row in form(one).openings() + form(other).openings())
            lacking = [Opening(kind, Lot(pairs)) for kind, pairs in rows if not all(
                gives(book, brute.one_of(kind), Lot(pairs)) for book in (one, other))]
            self.assertEqual(parted(one, other), lacking[0] if lacking else None)
            self.assertIs(parted(one, other) is None, same)
        self.assertGreater(min(told.count(True), told.count(False)), 50)
