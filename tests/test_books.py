"""[5]: Books, all but their texts."""

import itertools
import unittest

from onceopened.books import Book, Opening
from onceopened.errors import Ringed
from onceopened.lots import Lot


def opening(kind, contents):
    return Opening(kind, Lot.of(contents))


BOX = opening("box", "3 pair")
PAIR = opening("pair", "2 cup")
SET = opening("box", "1 cup 1 tea")


class Anything:
    """Is equal to whatever is asked of it."""

    def __eq__(self, other):
        return True


class SetTest(unittest.TestCase):
    def test_the_set_of_its_openings_in_any_order(self):
        for order in itertools.permutations((BOX, PAIR, SET)):
            book = Book(order)
            self.assertEqual(book.openings(), [SET, BOX, PAIR])
            self.assertEqual(book, Book((BOX, PAIR, SET)))

    def test_lists_and_tuples(self):
        self.assertEqual(Book([BOX, PAIR]), Book((BOX, PAIR)))

    def test_some_openings_twice(self):
        book = Book([PAIR, BOX, PAIR, opening("box", "3 pair"), BOX])
        self.assertEqual((len(book), book.openings()), (2, [BOX, PAIR]))
        self.assertEqual(book, Book((BOX, PAIR)))

    def test_the_empty_book(self):
        for book in (Book(), Book(()), Book([]), Book((BOX,)) - Book((BOX,)), Book() | Book()):
            self.assertEqual((len(book), book.openings(), book.kinds(), book.text()), (0, [], [], "-"))
            self.assertEqual((book["box"], book.holders("cup"), book.inside("box")), ([], [], []))
            self.assertEqual((book.worth(Lot.of("2 box 3 cup")), book.worth(Lot()), book.is_plain()), (5, 0, True))
            self.assertEqual(book, Book())
            self.assertNotIn(BOX, book)

    def test_in_and_len(self):
        book = Book((BOX, PAIR))
        self.assertEqual(len(book), 2)
        self.assertIn(BOX, book)
        self.assertIn(opening("pair", "2 cup"), book)
        for other in (SET, opening("box", "2 pair"), opening("crate", "3 pair"), "box", Lot.of("3 pair")):
            self.assertNotIn(other, book)

    def test_equal_if_they_have_the_same_openings(self):
        rows = (BOX, PAIR, SET)
        parts = [part for many in range(4) for part in itertools.combinations(rows, many)]
        for one, other in itertools.product(parts, parts):
            self.assertIs(Book(one) == Book(other), one == other)
            self.assertIs(Book(one) != Book(other), one != other)

    def test_equal_to_nothing_else(self):
        book = Book((BOX,))
        for other in (BOX, [BOX], (BOX,), book.text(), {"box": 1}, Lot.of("3 pair"), None, Anything()):
            self.assertIs(book == other, False)
            self.assertIs(book != other, True)
        for other in ([], (), {}, "-", "", 0, None, Lot()):
            self.assertFalse(Book() == other)

    def test_the_list_passed_in_is_neither_changed_nor_kept(self):
        rows = [PAIR, BOX, PAIR]
        book = Book(rows)
        self.assertEqual(rows, [PAIR, BOX, PAIR])
        rows.clear()
        self.assertEqual(book.openings(), [BOX, PAIR])

    def test_lots_changed_later_do_not_change_the_book(self):
        contents = Lot.of("2 cup")
        book = Book([Opening("box", contents)])
        contents["box"] = 1
        contents["cup"] = 7
        given = book["box"][0].contents
        given += Lot.of("1 tea")
        given = book.openings()[0].contents
        given["cup"] = 0
        self.assertEqual((book.text(), book.kinds()), ("box = 2 cup", ["box", "cup"]))
        self.assertEqual(book.worth(Lot.of("1 box")), 3)

    def test_a_lot_passed_to_worth_is_not_changed(self):
        lot = Lot.of("1 box 2 cup")
        Book((BOX, PAIR)).worth(lot)
        self.assertEqual(lot.text(), "1 box 2 cup")


class AskingTest(unittest.TestCase):
    def setUp(self):
        self.book = Book.of("y = 1 a 2 k\nz = 3 k\nk = 2 m\ny = 10 k\ny = 9 k")

    def texts(self, openings):
        self.assertIsInstance(openings, list)
        return [opening.text() for opening in openings]

    def test_openings_of_a_kind_ascending(self):
        self.assertEqual(self.texts(self.book["y"]), ["y = 1 a 2 k", "y = 9 k", "y = 10 k"])
        self.assertEqual(self.texts(self.book["k"]), ["k = 2 m"])
        self.assertEqual((self.book["m"], self.book["other"]), ([], []))

    def test_all_openings_ascending(self):
        self.assertEqual(
            self.texts(self.book.openings()), ["k = 2 m", "y = 1 a 2 k", "y = 9 k", "y = 10 k", "z = 3 k"])

    def test_holders_ascending(self):
        self.assertEqual(self.texts(self.book.holders("k")), ["y = 1 a 2 k", "y = 9 k", "y = 10 k", "z = 3 k"])
        self.assertEqual(self.texts(self.book.holders("a")), ["y = 1 a 2 k"])
        self.assertEqual((self.book.holders("y"), self.book.holders("other")), ([], []))

    def test_kinds_ascending(self):
        self.assertEqual(self.book.kinds(), ["a", "k", "m", "y", "z"])
        self.assertEqual(Book.of("b = 1 z\na = 1 z").kinds(), ["a", "b", "z"])
        self.assertEqual(Book.of("z = 1 a 1 b").kinds(), ["a", "b", "z"])

    def test_inside_ascending(self):
        self.assertEqual(self.book.inside("y"), ["a", "k", "m"])
        self.assertEqual(self.book.inside("z"), ["k", "m"])
        self.assertEqual(self.book.inside("k"), ["m"])
        self.assertEqual((self.book.inside("m"), self.book.inside("other")), ([], []))

    def test_inside_goes_through_every_depth_and_each_opening(self):
        book = Book.of("h = 1 g\ng = 1 f\nf = 1 e\ne = 1 d\nd = 1 c\nd = 1 b\nb = 1 a")
        self.assertEqual(book.inside("h"), list("abcdefg"))
        self.assertEqual(book.inside("d"), ["a", "b", "c"])
        self.assertEqual(book.inside("c"), [])

    def test_returned_lists_are_new(self):
        book = self.book
        for call in (lambda: book["y"], book.openings, lambda: book.holders("k"), book.kinds,
                     lambda: book.inside("y")):
            before = call()
            call().clear()
            call().append("other")
            self.assertEqual(call(), before)
        self.assertEqual(len(book), 5)


class RingTest(unittest.TestCase):
    def check(self, ring, text):
        """Whether ring is one of the lines of the text."""
        holds = {}
        for line in text.split("\n"):
            kind, words = line.split(" = ")
            holds.setdefault(kind, set()).update(words.split(" ")[1::2])
        self.assertIsInstance(ring, tuple)
        self.assertGreater(len(ring), 0)
        for holder, kind in zip(ring, ring[1:] + ring[:1]):
            self.assertIn(kind, holds[holder])

    RINGS = (
        "a = 1 b\nb = 1 a",
        "b = 1 a\na = 1 b",
        "a = 1 b\nb = 1 c\nc = 1 a",
        "c = 2 b\nb = 3 a 1 x\na = 1 c 1 x",
        "a = 1 b\nb = 1 c\nc = 1 d\nd = 1 e\ne = 1 f\nf = 1 g\ng = 1 h\nh = 1 a",
        "a = 1 b\nb = 1 c\nb = 1 d\nc = 1 e\nd = 1 e\ne = 1 c",
        "a = 1 b\na = 1 c\nb = 1 d\nc = 1 d\nd = 1 x\nd = 1 c",
        "a = 1 b 1 c\nb = 1 c\nc = 1 d\nd = 1 e\ne = 1 b",
        "t = 1 a\na = 1 x\na = 1 y\nx = 1 y\ny = 1 z\nz = 1 q\nz = 1 x\nq = 1 p",
        "a = 1 b\nb = 1 a\nc = 1 d\nd = 1 c",
    )

    def test_from_book(self):
        for text in self.RINGS:
            rows = [opening(*line.split(" = ")) for line in text.split("\n")]
            for order in (rows, rows[::-1], tuple(rows + rows)):
                with self.subTest(text=text), self.assertRaises(Ringed) as caught:
                    Book(order)
                self.check(caught.exception.ring, text)

    def test_from_of(self):
        for text in self.RINGS:
            with self.subTest(text=text), self.assertRaises(Ringed) as caught:
                Book.of(text)
            self.check(caught.exception.ring, text)

    def test_of_one_kind_from_of(self):
        for text, kind in (("a = 1 a", "a"), ("a = 1 b\nbox = 2 box 3 cup", "box"), ("a = 2 a\nb = 1 c", "a")):
            with self.assertRaises(Ringed) as caught:
                Book.of(text)
            self.assertEqual(caught.exception.ring, (kind,))

    def test_from_or_which_leaves_both_books_as_they_were(self):
        for text in self.RINGS:
            lines = text.split("\n")
            for at in range(1, len(lines)):
                try:
                    one, other = Book.of("\n".join(lines[:at])), Book.of("\n".join(lines[at:]))
                except Ringed:
                    continue
                told = (one.text(), one.kinds(), other.text(), other.kinds())
                for left, right in ((one, other), (other, one)):
                    with self.subTest(text=text, at=at), self.assertRaises(Ringed) as caught:
                        left | right
                    self.check(caught.exception.ring, text)
                self.assertEqual((one.text(), one.kinds(), other.text(), other.kinds()), told)

    def test_no_ring_where_kinds_only_meet_again(self):
        for text in ("a = 1 b\na = 1 c\nb = 1 d\nc = 1 d", "a = 1 b 1 c\nb = 1 c", "a = 1 c\nb = 1 a 1 c\nb = 1 c"):
            self.assertEqual(len(Book.of(text)), len(text.split("\n")))

    def test_each_book_of_three_kinds(self):
        """Rings are found exactly where a walk along the openings comes back."""
        pairs = [(one, other) for one in "abc" for other in "abc" if one != other]
        for many in range(len(pairs) + 1):
            for rows in itertools.combinations(pairs, many):
                walks = set(rows)
                for _ in range(3):
                    walks |= {(one, to) for one, via in walks for at, to in rows if via == at}
                text = "\n".join(f"{one} = 1 {other}" for one, other in rows) or "-"
                if any(one == other for one, other in walks):
                    with self.subTest(text=text), self.assertRaises(Ringed) as caught:
                        Book.of(text)
                    self.check(caught.exception.ring, text)
                else:
                    book = Book.of(text)
                    for kind in "abc":
                        self.assertEqual(book.inside(kind), sorted(to for one, to in walks if one == kind))


class OperatorsTest(unittest.TestCase):
    def test_or(self):
        one, other = Book((BOX, SET)), Book((PAIR, SET))
        both = one | other
        self.assertEqual(both, Book((BOX, PAIR, SET)))
        self.assertEqual((one, other), (Book((BOX, SET)), Book((PAIR, SET))))
        self.assertEqual((both.inside("box"), both.holders("cup")), (["cup", "pair", "tea"], [SET, PAIR]))

    def test_minus(self):
        one, other = Book((BOX, PAIR, SET)), Book((SET, opening("box", "4 pair"), opening("pair", "2 tea")))
        self.assertEqual(one - other, Book((BOX, PAIR)))
        self.assertEqual((one - other).kinds(), ["box", "cup", "pair"])
        self.assertEqual((len(one), len(other)), (3, 3))

    def test_with_the_empty_book_and_with_itself(self):
        book = Book((BOX, PAIR))
        for made in (book | Book(), Book() | book, book | book, book - Book()):
            self.assertEqual(made, book)
        self.assertEqual((book - book, Book() - book), (Book(), Book()))

    def test_minus_of_books_whose_openings_together_are_ringed(self):
        one, other = Book.of("a = 1 b"), Book.of("b = 1 a")
        self.assertEqual(one - other, one)

    def test_what_is_returned_is_new_and_the_books_stay(self):
        book = other = Book((BOX,))
        book |= Book((PAIR,))
        self.assertEqual((len(book), len(other)), (2, 1))
        book -= Book((BOX,))
        self.assertEqual((book.openings(), other.openings()), ([PAIR], [BOX]))


class WorthTest(unittest.TestCase):
    def test_worth_of_plain_books(self):
        book = Book((BOX, PAIR))
        for text, worth in (("-", 0), ("1 cup", 1), ("1 pair", 3), ("1 box", 10), ("2 box 1 cup 5 pair", 36),
                            ("7 other", 7), ("1000000000000 box", 10 ** 13)):
            self.assertEqual(book.worth(Lot.of(text)), worth)

    def test_the_greatest_of_the_contents_counts(self):
        for text, worth in (
            ("y = 1 p\ny = 3 p", 4),
            ("y = 3 p\ny = 1 p", 4),
            ("y = 2 x\ny = 5 p\nx = 2 p", 7),
            ("y = 2 x\ny = 9 p\nx = 2 p", 10),
            ("y = 1 w 1 x\nx = 2 w\nw = 1 p\nw = 2 q", 11),
        ):
            self.assertEqual(Book.of(text).worth(Lot.of("1 y")), worth)

    def test_worth_whatever_the_order_of_the_kinds(self):
        for names in itertools.permutations("abcd"):
            top, second, third, last = names
            book = Book.of(f"{top} = 1 {second}\n{second} = 1 {third}\n{third} = 2 {last}\n{top} = 1 {last}")
            self.assertEqual([book.worth(Lot(((name, 1),))) for name in names], [5, 4, 3, 1])
            self.assertEqual(book.inner_first(), [last, third, second, top])

    def test_each_opening_lowers_the_worth(self):
        book = Book.of("w = 1 y 1 z\nw = 1 v\nv = 1 q 1 x\nq = 1 t 1 z\nq = 1 u 1 y\ny = 1 t 1 x\nz = 1 u 1 x")
        for row in book.openings():
            self.assertLess(book.worth(row.contents), book.worth(Lot(((row.kind, 1),))))

    def test_great_numbers(self):
        many = 10 ** 12
        book = Book([Opening(one, Lot(((other, many),))) for one, other in zip("abcdefg", "bcdefgh")])
        worth = 1
        for _ in range(7):
            worth = worth * many + 1
        self.assertEqual(book.worth(Lot((("a", many), ("h", 1)))), worth * many + 1)

    def test_more_than_the_bounds_is_no_error(self):
        rows = [f"a{one} = 1 a{other}" for one, other in itertools.combinations("abcdefghijklmnop", 2)]
        book = Book.of("\n".join(rows))
        self.assertEqual((len(book), len(book.kinds())), (120, 16))
        self.assertEqual((book.worth(Lot.of("1 aa")), len(book.inside("aa"))), (16, 15))


class SeveralTest(unittest.TestCase):
    def test_kinds_with_two_openings_and_kinds_in_two(self):
        for text, forks, meeting in (
            ("-", [], []), ("a = 1 b", [], []), ("a = 2 b\nb = 2 c", [], []), ("a = 1 c\nb = 1 c", [], ["c"]),
            ("a = 1 b\na = 1 c", ["a"], []), ("a = 1 b\na = 2 b\na = 3 b", ["a"], ["b"]),
            ("z = 1 q\nz = 1 p\nb = 1 q\nb = 1 p 1 y\nc = 1 x 1 y", ["b", "z"], ["p", "q", "y"]),
        ):
            book = Book.of(text)
            self.assertEqual((book.forked_kinds(), book.shared_kinds()), (forks, meeting))


class PlainTest(unittest.TestCase):
    def test_plain(self):
        for text in (
            "-", "a = 1 b", "box = 3 pair\npair = 2 cup",
            # at most one opening of each kind, but a kind in two openings
            "a = 1 c\nb = 1 c", "a = 1 b 1 c\nb = 1 c",
            # a kind with two openings, but none in two openings
            "a = 1 b\na = 1 c", "a = 1 b\na = 1 c\nc = 1 d\nc = 1 e\nx = 1 y",
        ):
            self.assertIs(Book.of(text).is_plain(), True, text)

    def test_not_plain(self):
        for text in (
            "a = 1 b\na = 2 b", "a = 1 b\na = 1 c\nx = 1 b", "a = 1 b\na = 1 c\nx = 1 z\ny = 1 z",
            "case = 2 pack\ncase = 4 cup\npack = 2 cup", "z = 1 b\nz = 1 c\nb = 1 c",
        ):
            self.assertIs(Book.of(text).is_plain(), False, text)
