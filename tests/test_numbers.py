"""[10]: one number a kind."""

import itertools
import unittest

from onceopened.books import Book
from onceopened.errors import Forked, Nothing, Uneven
from onceopened.forms import form
from onceopened.lots import Lot
from onceopened.numbers import forked, join, lack, least_with, lot_of, meet, numbers, times, unforked
from tests import brute

GREAT = 10 ** 12
ROWS = Book.of("y = 1 a 2 k\nz = 3 k\nk = 2 m")
# It is not plain, but its form is: the opening into 4 p is idle.
LATENT = Book.of("y = 2 x\ny = 4 p\nx = 2 p")


def lot(text):
    return Lot.of(text)


class NumbersTest(unittest.TestCase):
    def new(self, made, *operands):
        """Whether a change of what is made leaves the operands as they were."""
        kept = [operand.pairs() for operand in operands]
        made += Lot.of("7 other")
        made["k"] = 99
        self.assertEqual([operand.pairs() for operand in operands], kept)


class ForkedTest(unittest.TestCase):
    def test_kinds_with_two_openings_in_the_form(self):
        for text, kinds in (
            ("-", []), ("y = 1 p", []), ("y = 1 p\ny = 1 q", ["y"]), ("y = 2 x\ny = 4 p\nx = 2 p", []),
            ("y = 2 x\ny = 5 p\nx = 2 p", ["y"]), ("y = 1 p\nz = 1 p", []),
            ("z = 1 y\nz = 1 w\nb = 1 c\nb = 1 d\nb = 1 e\nm = 1 c", ["b", "z"]),
            ("z = 1 y\nz = 1 w\nb = 1 c\nb = 2 c\nb = 3 c", ["z"]),
        ):
            book = Book.of(text)
            self.assertEqual(forked(book), kinds)
            forked(book).append("other")
            self.assertEqual(forked(book=book), kinds)
            self.assertEqual(book, Book.of(text))

    def test_the_others_raise_it_ahead_of_all_else(self):
        book, uneven, some, none = Book.of("z = 1 y\nz = 1 w\nb = 1 c\nb = 1 d"), lot("1 b 1 z"), lot("1 a"), Lot()
        calls = (
            lambda: numbers(book, some), lambda: lot_of(book, uneven), lambda: lack(book, some, none),
            lambda: meet(book, some, some), lambda: join(book, some, none), lambda: times(book, some, none),
            lambda: times(book, some, some), lambda: numbers(book, none), lambda: lot_of(book, none),
            lambda: unforked(book),
        )
        for call in calls:
            with self.assertRaises(Forked) as caught:
                call()
            self.assertEqual(caught.exception.kind, "b")
            with self.assertRaises(ValueError):
                call()
        self.assertEqual((uneven, some, none, len(book)), (lot("1 b 1 z"), lot("1 a"), Lot(), 4))


    def test_the_form_where_no_kind_is_forked(self):
        self.assertEqual((unforked(ROWS), unforked(LATENT)), (ROWS, Book.of("y = 2 x\nx = 2 p")))


class OfLotsTest(NumbersTest):
    def test_numbers(self):
        for book, stock, expected in (
            (ROWS, "1 y 1 z", "1 a 5 k 10 m 1 y 1 z"), (ROWS, "-", "-"), (ROWS, "3 m", "3 m"),
            (ROWS, "2 hat 1 k", "2 hat 1 k 2 m"), (ROWS, "1 a 1 k 1 m 2 y", "3 a 5 k 11 m 2 y"),
            (LATENT, "2 y", "8 p 4 x 2 y"), (Book(), "2 y", "2 y"),
            (Book.of("a = 1 b 1 c\nb = 1 c 2 d\nc = 1 d"), "1 a", "1 a 1 b 2 c 4 d"),
        ):
            start = lot(stock)
            self.assertEqual(numbers(book, start).text(), expected)
            self.assertEqual(start.text(), stock)
            self.new(numbers(book=book, lot=start), start)
            self.assertEqual(lot_of(book, numbers(book, start)), start)

    def test_whatever_the_order_of_the_kinds(self):
        for names in itertools.permutations("abcd"):
            top, second, third, last = names
            both = Lot(((second, 2), (last, 1))).text()
            book = Book.of(f"{top} = {both}\n{second} = 3 {third}\n{third} = 5 {last}")
            found = numbers(book, Lot(((top, 1),)))
            self.assertEqual([found[name] for name in names], [1, 2, 6, 31])
            self.assertEqual(lot_of(book, found), Lot(((top, 1),)))

    def test_lot_of(self):
        for counts, expected in (
            ("1 a 5 k 12 m 1 y 1 z", "2 m 1 y 1 z"), ("1 a 5 k 10 m 1 y 1 z", "1 y 1 z"), ("-", "-"),
            ("5 hat 2 m", "5 hat 2 m"), ("3 k 6 m", "3 k"), ("1 a 2 k 4 m 1 y", "1 y"),
            ("4 a 3 k 7 m 1 y", "3 a 1 k 1 m 1 y"),
        ):
            start = lot(counts)
            made = lot_of(ROWS, start)
            self.assertEqual(made.text(), expected)
            self.assertEqual(numbers(ROWS, made), start)
            self.new(made, start)
            self.assertEqual(start.text(), counts)

    def test_uneven_of_the_least_kind(self):
        for book, counts, kind in (
            (ROWS, "2 k 4 m 1 y", "a"), (ROWS, "1 a 1 k 4 m 1 y", "k"), (ROWS, "1 a 2 k 3 m 1 y", "m"),
            (ROWS, "1 k", "m"), (ROWS, "1 y", "a"), (ROWS, "1 a 4 k 8 m 1 y 1 z", "k"), (ROWS, "5 k 9 m 1 z", "m"),
            # k has enough for what counts has of y and z, and lacks nothing by what they would need of m.
            (ROWS, "1 a 9 k 9 m 1 y 1 z", "m"), (LATENT, "1 x 1 y", "p"), (LATENT, "4 p 1 y", "x"),
        ):
            start = lot(counts)
            with self.assertRaises(Uneven) as caught:
                lot_of(book, start)
            self.assertEqual(caught.exception.kind, kind)
            self.assertEqual(start.text(), counts)
            with self.assertRaises(ValueError):
                lot_of(book=book, counts=start)

    def test_a_kind_without_holders_is_never_uneven(self):
        self.assertEqual(lot_of(ROWS, lot("9 a 2 hat")).text(), "9 a 2 hat")

    def test_the_least_lot_with_greater_numbers(self):
        for counts, expected in (
            ("-", "-"), ("1 y", "1 y"), ("1 k", "1 k"), ("1 k 1 m", "1 k"), ("3 k 1 y", "1 k 1 y"),
            ("1 a 2 k 9 m 1 y", "5 m 1 y"), ("1 y 1 z", "1 y 1 z"), ("6 k 11 m 1 y 1 z", "1 k 1 y 1 z"),
            ("2 hat", "2 hat"),
        ):
            start = lot(counts)
            found = least_with(ROWS, start)
            self.assertEqual(found.text(), expected)
            self.assertTrue(start.within(numbers(ROWS, found)))
            self.new(found, start)
            self.assertEqual(start.text(), counts)

    def test_lack(self):
        for stock, ask, expected in (
            ("1 y 1 z", "2 k 3 m 1 z", ("m", 10, 13)), ("1 y 1 z", "5 k", None), ("1 y 1 z", "6 k", ("k", 5, 6)),
            ("1 y 1 z", "1 a 10 m", None), ("1 y", "1 z", ("k", 2, 3)), ("-", "-", None), ("1 y", "-", None),
            ("1 y", "1 hat", ("hat", 0, 1)), ("1 z", "1 y", ("a", 0, 1)), ("1 y", "2 a 9 k", ("a", 1, 2)),
            ("2 k", "1 k 2 m", None), ("2 k", "1 k 3 m", ("m", 4, 5)),
        ):
            told = lack(ROWS, lot(stock), lot(ask))
            self.assertEqual(told, expected)
            self.assertEqual(lack(book=ROWS, stock=lot(stock), ask=lot(ask)), expected)
            if expected is not None:
                self.assertIsInstance(told, tuple)
        self.assertEqual(lack(LATENT, lot("1 y"), lot("5 p")), ("p", 4, 5))


class TwoLotsTest(NumbersTest):
    def check(self, call, book, one, other, expected):
        for left, right in ((one, other), (other, one)):
            first, second = lot(left), lot(right)
            self.assertEqual(call(book, first, second).text(), expected)
            self.new(call(book=book, one=first, other=second), first, second)
            self.assertEqual((first.text(), second.text()), (left, right))

    def test_meet(self):
        for one, other, expected in (
            ("1 y 1 z", "4 k 1 y", "3 k 1 y"), ("-", "-", "-"), ("1 y", "-", "-"), ("1 y", "1 z", "2 k"),
            ("1 y", "1 y", "1 y"), ("1 y", "3 m", "3 m"), ("1 k", "1 k 1 m", "1 k"), ("2 k", "1 k 1 m", "1 k 1 m"),
            ("1 hat", "1 y", "-"), ("2 hat 1 z", "1 hat 1 y", "1 hat 2 k"),
        ):
            self.check(meet, ROWS, one, other, expected)
        self.check(meet, LATENT, "1 y", "5 p", "4 p")
        self.check(meet, LATENT, "1 y", "3 x", "2 x")

    def test_join(self):
        for one, other, expected in (
            ("1 y 1 z", "4 k 1 y", "1 k 1 y 1 z"), ("-", "-", "-"), ("1 y", "-", "1 y"), ("1 y", "1 z", "1 y 1 z"),
            ("1 y", "1 y", "1 y"), ("1 y", "3 m", "1 y"), ("1 y", "5 m", "1 m 1 y"), ("1 y", "3 k", "1 k 1 y"),
            ("1 hat", "2 hat 1 z", "2 hat 1 z"), ("1 y", "2 a", "1 a 1 y"), ("3 k", "7 m", "3 k 1 m"),
        ):
            self.check(join, ROWS, one, other, expected)
        self.check(join, LATENT, "1 y", "5 p", "1 p 1 y")

    def test_join_needs_more_than_the_greater_numbers(self):
        # y and z together hold more of k than either Lot has, and this more of m.
        self.assertEqual(numbers(ROWS, join(ROWS, lot("1 y"), lot("1 z"))).text(), "1 a 5 k 10 m 1 y 1 z")

    def test_the_same_lot_twice(self):
        one = lot("1 k 1 y")
        self.new(meet(ROWS, one, one), one)
        self.new(join(ROWS, one, one), one)
        self.assertEqual((meet(ROWS, one, one), join(ROWS, one, one)), (one, one))


class TimesTest(unittest.TestCase):
    def test_times(self):
        for stock, ask, often in (
            ("2 y 1 z", "1 k 1 m", 4), ("1 y 1 z", "1 m", 10), ("1 y", "1 z", 0), ("-", "1 y", 0), ("1 y", "1 hat", 0),
            ("4 y", "2 y", 2), ("3 y", "1 a", 3), ("3 y", "1 k 1 y", 2), ("5 k 3 y", "1 k 1 y", 3),
        ):
            self.assertEqual(times(ROWS, lot(stock), lot(ask)), often)
            self.assertEqual(times(book=ROWS, stock=lot(stock), ask=lot(ask)), often)
        self.assertEqual(times(LATENT, lot("3 y"), lot("1 p 1 x")), 4)

    def test_nothing(self):
        stock, empty = lot("1 y"), Lot()
        for start in (stock, empty):
            with self.assertRaises(Nothing):
                times(ROWS, start, empty)
            with self.assertRaises(ZeroDivisionError):
                times(ROWS, start, Lot())
        self.assertEqual((stock.text(), empty.text()), ("1 y", "-"))


class GreatNumbersTest(unittest.TestCase):
    def test_a_chain(self):
        book = Book.of("\n".join(f"{one} = {GREAT} {other}" for one, other in zip("abcdefg", "bcdefgh")))
        stock = Lot((("a", GREAT),))
        found = numbers(book, stock)
        self.assertEqual(found.pairs(), tuple((kind, GREAT ** at) for at, kind in enumerate("abcdefgh", 1)))
        self.assertEqual(lot_of(book, found), stock)
        self.assertEqual(times(book, stock, Lot.of("3 h")), GREAT ** 8 // 3)
        self.assertEqual(lack(book, stock, Lot((("h", GREAT ** 8 + 1),))), ("h", GREAT ** 8, GREAT ** 8 + 1))
        self.assertIsNone(lack(book, stock, Lot((("h", GREAT ** 8),))))
        other = Lot((("h", GREAT ** 8 + 5),))
        self.assertEqual(meet(book, stock, other), other - Lot.of("5 h"))
        self.assertEqual(join(book, stock, other), stock + Lot.of("5 h"))

    def test_a_book_that_is_not_plain(self):
        stock = Lot((("y", GREAT), ("p", 1)))
        self.assertEqual(numbers(LATENT, stock).pairs(), (("p", 4 * GREAT + 1), ("x", 2 * GREAT), ("y", GREAT)))
        self.assertEqual(times(LATENT, stock, Lot.of("1 p")), 4 * GREAT + 1)
        self.assertEqual(meet(LATENT, stock, Lot((("x", GREAT),))), Lot((("x", GREAT),)))
        self.assertEqual(join(LATENT, stock, Lot((("x", 2 * GREAT + 1),))).text(), f"1 x {GREAT} y")
        self.assertEqual(lot_of(LATENT, numbers(LATENT, stock)), stock)
        self.assertEqual(lack(LATENT, stock, Lot((("x", 3 * GREAT),))), ("p", 4 * GREAT + 1, 6 * GREAT))


class SmallBooksTest(unittest.TestCase):
    def test_against_each_way_to_open(self):
        chance, books = brute.books(12, 600)
        tried = 0
        for book in books:
            rows = brute.rows_of(book)
            kept = form(book)
            kinds = [kind for kind in book.kinds() if len(kept[kind]) > 1]
            self.assertEqual(forked(book), kinds)
            if not kinds:
                tried += 1
                one = brute.lot_of(chance, book, 10)
                other = brute.ask_of(chance, book, one)
                for left, right in ((one, other), (other, one), (one, brute.lot_of(chance, book, 10))):
                    self.compare(book, rows, left, right)
        self.assertGreater(tried, 200)

    def compare(self, book, rows, one, other):
        """Whether all functions tell of both Lots what opening them piece by piece tells."""
        given, also = ({part for bag in brute.becomes(rows, start.pairs()) for part in brute.parts_of(bag)}
                       for start in (one, other))
        there, wanted = numbers(book, one), numbers(book, other)
        for kind in "abcdef":
            self.assertEqual(there[kind], max(dict(bag).get(kind, 0) for bag in given))
        self.assertEqual(lot_of(book, there), one)
        self.assertIs(wanted.within(there), other.pairs() in given)
        more = [(kind, there[kind], wanted[kind]) for kind in "abcdef" if wanted[kind] > there[kind]]
        self.assertEqual(lack(book, one, other), more[0] if more else None)
        common = meet(book, one, other)
        self.assertIn(common.pairs(), given & also)
        from_common = {part for bag in brute.becomes(rows, common.pairs()) for part in brute.parts_of(bag)}
        self.assertEqual(given & also, from_common)
        self.covering(book, rows, one, other)
        if len(other) > 0:
            often = times(book, one, other)
            self.assertIn((other * often).pairs(), given)
            self.assertNotIn((other * (often + 1)).pairs(), given)

    def covering(self, book, rows, one, other):
        """Whether join gives both, and whatever gives both gives it."""
        least = join(book, one, other)
        for part in (one, other):
            self.assertTrue(brute.gives(rows, least.pairs(), part.pairs()))
        # If any Lot that gives both did not give it, one piece less or one opening more would still give both.
        lesser = [least - brute.one_of(kind) for kind in least.kinds()]
        rows_there = [row for row in form(book).openings() if row.kind in least]
        lesser.extend([least - brute.one_of(row.kind) + row.contents for row in rows_there])
        for lot_less in lesser:
            self.assertFalse(all(brute.gives(rows, lot_less.pairs(), part.pairs()) for part in (one, other)))
        self.assertTrue(brute.gives(rows, (one + other).pairs(), least.pairs()))
