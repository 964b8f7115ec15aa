"""[11], the second part: what customers need, prices, and what is cheapest."""

import itertools
import unittest

from onceopened.books import Book
from onceopened.errors import Forked, Regretted, Unpriced
from onceopened.lattices import is_tree
from onceopened.lots import Lot
from onceopened.numbers import join, numbers
from onceopened.plans import gives
from onceopened.prices import cheapest, need, price
from tests import brute

GREAT = 10 ** 12
PLAIN = Book.of("box = 3 pair 2 tag\npair = 2 cup")
# The opening into p is idle, so that it is a tree.
LATENT = Book.of("y = 4 p\ny = 2 x\nx = 2 p")
COINS = {"box": 9, "cup": 2, "pair": 3, "tag": 2}


def lot(text):
    return Lot.of(text)


def lots(*texts):
    return [lot(text) for text in texts]


class NeedTest(unittest.TestCase):
    def check(self, book, customers, expected):
        rows = [lots(*row) for row in customers]
        found = need(book, rows)
        self.assertEqual(found.text(), expected)
        found += lot("3 hat")
        self.assertEqual(need(book=book, customers=tuple(tuple(row) for row in rows)).text(), expected)
        self.assertEqual([[each.text() for each in row] for row in rows], [list(row) for row in customers])

    def test_customers(self):
        self.check(PLAIN, [], "-")
        self.check(PLAIN, [["-"]], "-")
        self.check(PLAIN, [["3 cup"]], "3 cup")
        self.check(PLAIN, [["1 box", "7 cup"], ["2 pair"]], "1 box 1 cup 2 pair")
        self.check(PLAIN, [["1 box", "7 cup"]], "1 box 1 cup")
        self.check(PLAIN, [["1 box"], ["7 cup"]], "1 box 7 cup")
        self.check(PLAIN, [["1 box", "6 cup", "2 pair"]], "1 box")
        self.check(PLAIN, [["1 pair", "3 cup"], ["1 pair", "3 cup"]], "2 cup 2 pair")
        self.check(PLAIN, [["1 hat", "2 tag"], ["1 hat", "-"], ["1 tag"]], "2 hat 3 tag")
        self.check(PLAIN, [["1 box", "-", "1 box"], ["4 tag", "1 pair", "2 tag", "1 box"]], "2 box 2 tag")
        self.check(Book(), [["2 cup", "3 tea"], ["1 cup"]], "3 cup 3 tea")
        self.check(LATENT, [["1 y", "5 p"], ["1 x"]], "1 p 1 x 1 y")

    def test_what_is_returned_is_new(self):
        ask = lot("1 box")
        need(PLAIN, [[ask]])["box"] = 7
        need(PLAIN, [[ask, ask], [ask]])["box"] = 7
        self.assertEqual(ask.text(), "1 box")

    def test_great_numbers(self):
        many = Lot((("box", GREAT),))
        self.assertEqual(need(PLAIN, [[many, Lot((("cup", 6 * GREAT + 1),))], [many]]).text(), f"{2 * GREAT} box 1 cup")
        self.assertEqual(need(LATENT, [[Lot((("p", GREAT),)), Lot((("y", GREAT),))]]).text(), f"{GREAT} y")

    def test_small_books(self):
        """It gives whatever they choose, and is the join of all that they can ask together."""
        chance, books = brute.books(50, 500)
        tried = 0
        for book in books:
            if is_tree(book):
                tried += 1
                rows = [[brute.lot_of(chance, book, 5) for _ in range(chance.randint(1, 3))]
                        for _ in range(chance.randint(1, 3))]
                found, least = need(book, rows), Lot()
                for asks in itertools.product(*rows):
                    together = sum(asks, Lot())
                    self.assertTrue(gives(book, found, together))
                    least = join(book, least, together)
                self.assertEqual(found, least)
                self.no_lesser_one(book, found, rows)
        self.assertGreater(tried, 60)

    def no_lesser_one(self, book, found, rows):
        lesser = [found - brute.one_of(kind) for kind in found.kinds()]
        lesser.extend(found - brute.one_of(row.kind) + row.contents for row in book.openings() if row.kind in found)
        for less in lesser:
            self.assertFalse(all(gives(book, less, sum(asks, Lot())) for asks in itertools.product(*rows)))


class PriceTest(unittest.TestCase):
    def test_prices(self):
        for text, expected in (
            ("-", 0), ("1 cup 3 pair 2 tag", 15), ("1 box", 9), (f"{GREAT} cup 1 tag", 2 * GREAT + 2),
        ):
            asked, coins = lot(text), dict(COINS)
            self.assertEqual(price(asked, coins), expected)
            self.assertEqual(price(prices=coins, lot=asked), expected)
            self.assertEqual((asked.text(), coins), (text, COINS))
        self.assertEqual(price(lot("5 cup"), {"cup": 0, "other": 9}), 0)
        self.assertEqual(price(Lot(), {}), 0)

    def test_unpriced(self):
        for text, kind in (
            ("1 hat", "hat"), ("1 cup 1 hat 1 tea", "hat"), ("1 ant 1 hat", "ant"), ("9 cup 1 zoo", "zoo"),
        ):
            with self.assertRaises(Unpriced) as caught:
                price(lot(text), COINS)
            self.assertEqual(caught.exception.kind, kind)
            self.assertIsInstance(caught.exception, ValueError)


class CheapestTest(unittest.TestCase):
    def check(self, book, stock, ask, prices, expected):
        start, asked, coins = lot(stock), lot(ask), dict(prices)
        found = cheapest(book, start, asked, coins)
        self.assertEqual(found.text(), expected)
        found += lot("3 hat")
        self.assertEqual(cheapest(prices=coins, ask=asked, stock=start, book=book).text(), expected)
        self.assertEqual((start.text(), asked.text(), coins), (stock, ask, prices))

    def test_boxes(self):
        self.check(PLAIN, "-", "7 cup 2 tag", COINS, "1 box 1 cup")
        self.check(PLAIN, "-", "-", COINS, "-")
        self.check(PLAIN, "1 box", "6 cup 2 tag", COINS, "-")
        self.check(PLAIN, "1 box", "7 cup", COINS, "1 cup")
        self.check(PLAIN, "1 box", "8 cup", COINS, "1 pair")
        self.check(PLAIN, "-", "1 cup", COINS, "1 cup")
        self.check(PLAIN, "-", "1 cup", dict(COINS, cup=4), "1 pair")
        self.check(PLAIN, "-", "1 cup", dict(COINS, cup=10, pair=10), "1 box")
        self.check(PLAIN, "-", "1 pair", COINS, "1 pair")
        self.check(PLAIN, "-", "1 box 1 cup", COINS, "1 box 1 cup")
        self.check(PLAIN, "9 cup", "1 box", COINS, "1 box")
        self.check(PLAIN, "1 pair", "2 cup 1 pair", COINS, "1 pair")

    def test_of_several_the_one_that_the_others_give(self):
        # A pair costs what two cups cost; a box costs what three pairs and two tags cost.
        even = {"box": 16, "cup": 2, "pair": 4, "tag": 2}
        self.check(PLAIN, "-", "2 cup", even, "2 cup")
        self.check(PLAIN, "-", "6 cup 2 tag", even, "6 cup 2 tag")
        self.check(PLAIN, "-", "7 cup 2 tag", dict(even, cup=1), "7 cup 2 tag")
        self.check(PLAIN, "-", "2 cup 1 pair", even, "2 cup 1 pair")

    def test_prices_of_nothing(self):
        free = dict.fromkeys(COINS, 0)
        self.check(PLAIN, "-", "7 cup 2 tag", free, "7 cup 2 tag")
        self.check(PLAIN, "1 pair", "7 cup 2 tag", free, "5 cup 2 tag")
        self.check(PLAIN, "-", "7 cup 2 tag", dict(free, cup=1), "4 pair 2 tag")
        self.check(PLAIN, "-", "7 cup 2 tag", dict(free, cup=1, pair=1), "2 box")
        self.check(PLAIN, "-", "7 cup 5 tag", dict(free, tag=1), "3 box")

    def test_kinds_that_are_in_no_opening(self):
        self.check(PLAIN, "1 hat", "3 hat 1 tag", dict(COINS, hat=5), "2 hat 1 tag")
        self.check(Book(), "1 hat", "3 hat", {"hat": 0}, "2 hat")
        # What lies in the stock alone needs no price, and what has a price alone is not bought.
        self.check(PLAIN, "7 hat", "1 tag", dict(COINS, tea=0), "1 tag")

    def test_only_the_form_counts(self):
        self.check(LATENT, "-", "3 p", {"p": 5, "x": 9, "y": 12}, "1 y")
        self.check(LATENT, "-", "3 p", {"p": 5, "x": 7, "y": 16}, "1 p 1 x")

    def test_errors_in_their_order(self):
        both = Book.of("b = 1 p\nb = 1 q\ny = 1 p\nz = 1 a\nc = 1 a\nz = 1 m")
        shares = Book.of("y = 1 p 1 q\nz = 1 p 1 q")
        for call in (
            lambda: need(both, []), lambda: need(both, [[Lot()]]), lambda: cheapest(both, Lot(), Lot(), {}),
            lambda: cheapest(both, Lot(), lot("1 hat"), {}),
        ):
            with self.assertRaises(Forked) as caught:
                call()
            self.assertEqual(caught.exception.kind, "b")
        for call in (lambda: need(shares, []), lambda: cheapest(shares, Lot(), Lot(), {})):
            with self.assertRaises(Regretted) as refused:
                call()
            self.assertEqual(refused.exception.kind, "p")
        for book, ask, prices, kind in (
            (PLAIN, "1 hat", {}, "box"), (PLAIN, "1 ant", {}, "ant"), (PLAIN, "-", dict(COINS, tag=1), None),
            (PLAIN, "-", {"box": 1, "cup": 1, "tag": 1}, "pair"), (PLAIN, "1 hat", COINS, "hat"),
            (PLAIN, "1 hat", {"box": 1, "cup": 1, "pair": 1}, "hat"), (LATENT, "-", {"p": 1, "y": 1}, "x"),
            (Book(), "1 cup", {"hat": 1}, "cup"),
        ):
            stock, asked, coins = lot("5 box 9 hat 2 odd"), lot(ask), dict(prices)
            if kind is None:
                self.assertEqual(cheapest(book, stock, asked, coins), Lot())
            else:
                with self.assertRaises(Unpriced) as unpriced:
                    cheapest(book, stock, asked, coins)
                self.assertEqual(unpriced.exception.kind, kind)
            self.assertEqual((stock.text(), asked.text(), coins), ("5 box 9 hat 2 odd", ask, prices))

    def test_great_numbers(self):
        chain = Book.of(f"a = {GREAT} b\nb = {GREAT} c")
        ask = Lot((("c", GREAT ** 2 * 3 - 1),))
        for prices, expected in (
            ({"a": GREAT, "b": GREAT, "c": GREAT}, "3 a"), ({"a": GREAT, "b": 1, "c": 0}, ask.text()),
            ({"a": GREAT + 1, "b": 1, "c": 1}, f"{3 * GREAT} b"),
            ({"a": GREAT - 1, "b": 1, "c": 1}, "3 a"), ({"a": GREAT, "b": 2, "c": 1}, "3 a"),
        ):
            self.assertEqual(cheapest(chain, Lot(), ask, prices).text(), expected)
        found = cheapest(LATENT, Lot(), Lot((("p", GREAT),)), {"p": 3, "x": 5, "y": 9})
        self.assertEqual(found.text(), f"{GREAT // 4} y")

    def test_small_books_against_all_lots(self):
        chance, books = brute.books(51, 900, kinds="abcde")
        tried = several = 0
        for book in books:
            if is_tree(book):
                stock, ask = brute.lot_of(chance, book, 6, "abcde"), brute.lot_of(chance, book, 8, "abcde")
                prices = {kind: chance.randint(0, 5) for kind in "abcde"}
                found = cheapest(book, stock, ask, prices)
                self.assertTrue(gives(book, stock + found, ask))
                others = self.no_dearer(book, stock, ask, prices, price(found, prices))
                if others is not None:
                    self.assertIn(found, others)
                    for other in others:
                        self.assertEqual(price(other, prices), price(found, prices))
                        self.assertTrue(gives(book, other, found))
                    tried += 1
                    several += len(others) > 1
        self.assertGreater(min(tried, several), 50)

    def no_dearer(self, book, stock, ask, prices, most):
        """All Lots of at most this price that help, without more of a kind than can be of use; None if too many."""
        told = numbers(book, ask)
        tops = [max(told[part] for part in [kind] + book.inside(kind)) for kind in "abcde"]
        many = 1
        for top in tops:
            many *= top + 1
        if many > 3000:
            return None
        found = (Lot(zip("abcde", row)) for row in itertools.product(*(range(top + 1) for top in tops)))
        return [each for each in found if price(each, prices) <= most and gives(book, stock + each, ask)]
