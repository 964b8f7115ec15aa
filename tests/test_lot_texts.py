"""[3], [4]: KINDs, and the texts of Lots."""

import string
import unittest

from onceopened.errors import BadText
from onceopened.lots import Lot

BAD = [
    "", " ", "  ", "--", " -", "- ", "-\n", "- 1 a", "1 a -",
    "0 a", "00 a", "01 a", "1 a 02 b", "1 a 0 b",
    "-1 a", "+1 a", "1.0 a", "1_0 a", "0x1 a", "1e3 a", "1, a", "a a",
    "1  a", "1 a  2 b", " 1 a", "1 a ", "1 a 2 b ", "1 a\n", "\n1 a", "1\na", "1 a\n2 b", "1\ta", "1 a\r", "1 a\t2 b",
    "1", "a", "1a", "a 1", "1 a 2", "1 a b", "1 2 a", "1 2 a b", "1 a,2 b", "1 a; 2 b",
    "1 b 2 a", "1 a 1 a", "1 a 2 b 3 b", "1 a 2 c 3 b", "1 ab 2 a", "2 cup 1 box",
    "1 A", "1 aB", "1 abcdefghi", "1 a1", "1 a_b", "1 a-b", "1 a.b", "1 a=b", "1 -",
    "1 \u00e4", "1 \u03b1", "1 \u00df", "1 \u00aa", "1 \u0430", "\u0661 a", "\u00b2 a", "\uff11 a", "1 \uff41",
    "1\u00a0a", "1 a\u20282 b", "1 a\x00", "\ufeff1 a", "1 \U0001d41a", "1 a\udcff",
]


class KindTest(unittest.TestCase):
    def test_one_to_eight_letters_from_a_to_z(self):
        for kind in list(string.ascii_lowercase) + ["ab", "zz", "abcdefgh", "zzzzzzzz"]:
            self.assertEqual(Lot.of("1 " + kind).pairs(), ((kind, 1),))

    def test_other_words_are_none(self):
        letters = set(string.ascii_lowercase)
        for word in ["", "abcdefghi", "z" * 300] + [chr(at) for at in range(0x300) if chr(at) not in letters]:
            for kind in (word, "a" + word) if len(word) == 1 else (word,):
                with self.subTest(kind=kind), self.assertRaises(BadText):
                    Lot.of("1 " + kind)


class TextTest(unittest.TestCase):
    def test_text(self):
        self.assertEqual(Lot().text(), "-")
        self.assertEqual(Lot((("a", 0),)).text(), "-")
        self.assertEqual(Lot((("cup", 4), ("box", 1), ("tea", 10 ** 12))).text(), "1 box 4 cup 1000000000000 tea")

    def test_of(self):
        self.assertEqual(Lot.of("-"), Lot())
        self.assertEqual(Lot.of("7 a"), Lot((("a", 7),)))
        self.assertEqual(Lot.of("1 a 20 aa 3 b"), Lot((("a", 1), ("aa", 20), ("b", 3))))

    def test_back_and_forth(self):
        for text in ("-", "1 a", "10 a", "9 abcdefgh", "1 a 1 b 1 c", "100 a 20 ab 3 b", "1000000000000 tea",
                     "9" * 300 + " a", "1" + "0" * 299 + " a 1 b"):
            self.assertEqual(Lot.of(text).text(), text)

    def test_numbers_have_at_most_300_digits(self):
        self.assertEqual(Lot.of("1" * 300 + " a")["a"], int("1" * 300))
        for text in ("1" + "0" * 300 + " a", "9" * 301 + " a", "1 a " + "1" * 301 + " b", "1" * 5000 + " a"):
            with self.assertRaises(BadText):
                Lot.of(text)

    def test_a_lot_can_have_more_than_of_reads(self):
        lot = Lot((("a", 10 ** 300),))
        self.assertEqual(lot.text(), "1" + "0" * 300 + " a")
        with self.assertRaises(BadText):
            Lot.of(lot.text())

    def test_bad_texts(self):
        for text in BAD:
            with self.subTest(text=text), self.assertRaises(BadText):
                Lot.of(text)

    def test_each_text_of_a_few_signs_is_refused_or_comes_back(self):
        texts = [""]
        for _ in range(6):
            texts = texts + [text + sign for text in texts if len(text) == len(texts[-1]) for sign in "01ab -"]
        read = []
        for text in texts:
            try:
                lot = Lot.of(text)
            except BadText:
                continue
            read.append(text)
            self.assertEqual(lot.text(), text)
        self.assertIn("1 ab", read)
        self.assertIn("10 aba", read)
        self.assertNotIn("01 a", read)

    def test_each_lot_that_is_read_is_new(self):
        one, other = Lot.of("1 a"), Lot.of("1 a")
        one["a"] = 2
        self.assertEqual(other["a"], 1)
        empty = Lot.of("-")
        empty["a"] = 2
        self.assertEqual(len(Lot.of("-")), 0)
