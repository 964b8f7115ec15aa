"""[5]: Openings."""

import itertools
import operator
import unittest

from onceopened.books import Book, Opening
from onceopened.errors import Hollow, Ringed
from onceopened.lots import Lot


class Anything:
    """Is equal to whatever is asked of it."""

    def __eq__(self, other):
        return True


class OpeningTest(unittest.TestCase):
    def test_kind_contents_and_text(self):
        opening = Opening("box", Lot((("tea", 2), ("cup", 10 ** 12))))
        self.assertEqual(opening.kind, "box")
        self.assertIsInstance(opening.contents, Lot)
        self.assertEqual(opening.contents.pairs(), (("cup", 10 ** 12), ("tea", 2)))
        self.assertEqual(opening.text(), "box = 1000000000000 cup 2 tea")

    def test_hollow(self):
        for contents in (Lot(), Lot((("box", 0), ("cup", 0)))):
            with self.assertRaises(Hollow) as caught:
                Opening("box", contents)
            self.assertEqual(caught.exception.kind, "box")

    def test_hollow_ahead_of_ringed(self):
        # Only an empty Lot is hollow, and no kind lies in it: both errors never meet in one Lot.
        with self.assertRaises(Hollow):
            Opening("box", Lot((("box", 0),)))
        with self.assertRaises(Hollow):
            Opening(kind="box", contents=Lot.of("-"))

    def test_ringed(self):
        for contents in ("1 box", "3 box", "1 a 1 box 1 cup", "1 box 9 cup"):
            with self.assertRaises(Ringed) as caught:
                Opening("box", Lot.of(contents))
            self.assertEqual(caught.exception.ring, ("box",))
            self.assertIsInstance(caught.exception.ring, tuple)

    def test_a_lot_changed_later_does_not_change_the_opening(self):
        contents = Lot.of("2 cup")
        opening = Opening("box", contents)
        contents["cup"] = 5
        contents["box"] = 1
        contents -= contents
        self.assertEqual(opening.contents.pairs(), (("cup", 2),))
        self.assertEqual((opening.text(), opening), ("box = 2 cup", Opening("box", Lot.of("2 cup"))))

    def test_contents_is_new_each_time(self):
        opening = Opening("box", Lot.of("2 cup"))
        contents = opening.contents
        self.assertIsNot(contents, opening.contents)
        contents += Lot.of("1 box 1 tea")
        contents["cup"] = 0
        self.assertEqual(opening.contents.pairs(), (("cup", 2),))
        self.assertEqual((opening.text(), opening), ("box = 2 cup", Opening("box", Lot.of("2 cup"))))

    def test_contents_cannot_be_set(self):
        opening = Opening("box", Lot.of("2 cup"))
        with self.assertRaises(AttributeError):
            opening.contents = Lot.of("3 cup")
        self.assertEqual(opening.text(), "box = 2 cup")

    def test_comparisons_are_by_kind_then_by_pairs(self):
        # Each row is the text of one opening, in their order: by text some of them would stand elsewhere.
        rows = [
            ("a", "9 b"), ("a", "10 b"), ("a", "10 b 1 c"), ("a", "10 b 1 d"), ("a", "1 c"), ("aa", "1 b"),
            ("b", "1 a"), ("b", "2 a"), ("b", "1 aa"), ("b", "1 c"),
        ]
        signs = (operator.lt, operator.le, operator.gt, operator.ge, operator.eq, operator.ne)
        for (at, one), (to, other) in itertools.product(enumerate(rows), repeat=2):
            left, right = Opening(one[0], Lot.of(one[1])), Opening(other[0], Lot.of(other[1]))
            for sign in signs:
                with self.subTest(one=one, sign=sign.__name__, other=other):
                    self.assertIs(sign(left, right), sign(at, to))

    def test_equal_to_nothing_else(self):
        opening = Opening("box", Lot.of("2 cup"))
        for other in (Lot.of("2 cup"), "box = 2 cup", ("box", (("cup", 2),)), Book((opening,)), [opening], None, 2,
                      Anything()):
            self.assertIs(opening == other, False)
            self.assertIs(opening != other, True)

    def test_not_ordered_beside_other_things(self):
        opening = Opening("box", Lot.of("2 cup"))
        for other in (1, "box", ("box", (("cup", 2),)), None, Lot.of("2 cup"), Book((opening,))):
            for sign in (operator.lt, operator.le, operator.gt, operator.ge):
                with self.assertRaises(TypeError):
                    sign(opening, other)
                with self.assertRaises(TypeError):
                    sign(other, opening)
