"""The examples of [4] and [5], as the document shows them."""

import unittest

from onceopened.books import Book, Opening
from onceopened.errors import BadText, Short
from onceopened.lots import Lot


class ExamplesTest(unittest.TestCase):
    def test_lots(self):
        lot = Lot((("cup", 3), ("box", 1), ("cup", 1)))
        self.assertEqual(
            (lot.pairs(), lot["cup"], lot["tea"], "tea" in lot, len(lot), abs(lot), lot.text()),
            ((("box", 1), ("cup", 4)), 4, 0, False, 2, 5, "1 box 4 cup"),
        )
        two, other = Lot.of("2 cup"), Lot.of("2 cup 9 tea")
        self.assertEqual(
            ((lot & other).text(), (lot | other).text(), lot // two, (lot % two).text(), (3 * two).text(),
             two.within(lot)),
            ("2 cup", "1 box 4 cup 9 tea", 2, "1 box", "6 cup", True),
        )
        with self.assertRaises(Short) as caught:
            lot - Lot.of("2 box 9 cup")
        self.assertEqual((caught.exception.kind, caught.exception.lacking), ("box", 1))
        lot -= two
        lot["box"] = 0
        self.assertEqual((lot.text(), Lot().text(), Lot.of("-") == Lot()), ("2 cup", "-", True))
        with self.assertRaises(BadText):
            Lot.of("2 cup 1 box")

    def test_books(self):
        box = Opening("box", Lot((("pair", 3),)))
        pair = Opening("pair", Lot.of("2 cup"))
        book = Book((pair, box, pair))
        self.assertEqual(
            (len(book), book.kinds(), book.inside("box"), book.text(), book.worth(Lot.of("1 box 1 cup")),
             book.is_plain()),
            (2, ["box", "cup", "pair"], ["cup", "pair"], "box = 3 pair\npair = 2 cup", 11, True),
        )
        self.assertEqual(
            ((Book((box,)) | Book((pair,))) == book, len(book - Book((box,))), pair in book,
             book.holders("cup") == [pair], box < pair, box.contents.text()),
            (True, 1, True, True, True, "3 pair"),
        )
