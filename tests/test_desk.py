"""[14]: requests line by line, and their answers."""

import unittest

from onceopened.desk import answers
from onceopened.errors import BadLine, Ringed
from onceopened.forms import form, idle
from onceopened.numbers import forked, join, meet, numbers
from onceopened.plans import gives
from onceopened.regrets import shared
from onceopened.shelves import Shelf
from tests import brute

GREAT = 10 ** 12
BOX = "box = 3 pair\npair = 2 cup"


class DeskTest(unittest.TestCase):
    def check(self, book, *pairs):
        """Whether each request, followed by its answer, is answered so."""
        text = "\n".join([book, ""] + list(pairs[::2]))
        self.assertEqual(answers(text), list(pairs[1::2]))
        self.assertEqual(answers(text=text), list(pairs[1::2]))

    def bad(self, text, number):
        with self.assertRaises(BadLine) as caught:
            answers(text)
        self.assertEqual(caught.exception.number, number)
        self.assertIsInstance(caught.exception, ValueError)


class ReadingTest(DeskTest):
    def test_without_requests(self):
        for text in ("-", BOX, BOX + "\n", "-\n"):
            self.assertEqual(answers(text), [])

    def test_what_is_returned_is_new(self):
        answers("-\n\nshared").append("other")
        answers("-").append("other")
        self.assertEqual((answers("-\n\nshared"), answers("-")), (["-"], []))

    def test_bad_lines_of_the_book(self):
        for text, number in (
            ("", 0), ("\n", 0), ("\n\n", 0), ("\nshared", 0), ("\n-\n\nshared", 0), ("box", 0), ("box = 1 cup\nbox", 1),
            ("box = -", 0), ("-\nbox = 1 cup", 0), ("box = 1 cup\n-", 1), ("shared", 0), ("box = 1 cup \n\nshared", 0),
            (" \n\nshared", 0), ("box = 1 cup\nhat = 0 cup\nx\n\nshared", 1), ("Box = 1 cup\n\nwrong", 0),
        ):
            self.bad(text, number)

    def test_bad_requests(self):
        for line in (
            "", " ", "-", "wrong", "Shared", "shared ", " shared", "shared -", "shared 1 cup", "undo -", "left 1 cup",
            "opened -", "stock", "stock ", "stock  1 cup", "stock 1 cup ", "stock cup", "stock 0 cup", "stock 01 cup",
            "stock 1 Cup", "stock 1 cup 1 box", "stock 1 cup 1 cup", "stock 1 cup > 1 cup", "ask", "ask 1", "arrive",
            "arrive - -", "often", "often 1 cup & 1 cup", "numbers", "numbers -1 cup",
            "gives", "gives 1 cup", "gives 1 cup > ",
            "gives > 1 cup", "gives 1 cup & 1 cup", "gives 1 cup > 1 cup > 1 cup", "gives 1 cup>1 cup",
            "gives 1 cup  > 1 cup", "meet 1 cup > 1 cup", "meet 1 cup", "meet 1 cup &", "join - & - & -", "join -",
            "join 1 cup &  1 box", "box = 1 cup", "form 1 box", "forked -", "idle -", "served -", "arrived 1 cup",
            "gives - >", "gives", "undoing", "ask\t1 cup", "ask 1 cup\r", "stock 1 abcdefghi",
            "stock " + "1" * 301 + " cup",
        ):
            self.bad(BOX + "\n\n" + line, 3)
            self.bad("-\n\nshared\nleft\n" + line + "\nwrong", 4)

    def test_further_empty_lines(self):
        self.bad("-\n\n\nshared", 2)
        self.bad("-\n\nshared\n", 3)
        self.bad("-\n\nshared\n\nshared", 3)
        self.bad(BOX + "\n\n", 3)

    def test_all_lines_are_read_ahead_of_all_answers(self):
        # The lines of the book come first, then its ring, then the requests.
        self.bad("a = 1 b\nb = 1 a\nc\n\nwrong", 2)
        for text in ("a = 1 b\nb = 1 a", "a = 1 b\nb = 1 a\n\nwrong", "a = 1 b\nb = 1 a\n\nshared", "a = 1 a\n\n\n"):
            with self.assertRaises(Ringed) as caught:
                answers(text)
            self.assertEqual(sorted(caught.exception.ring), sorted(set(text[:11]) & set("ab")))
        self.bad("gift = 2 cup\nsix = 6 cup\n\nstock 1 six\nask 1 hat\nwrong", 5)

    def test_great_lots(self):
        many = "9" * 90
        self.check(BOX, f"stock {many} box", "ok", f"often {many} cup", "6", "left", f"{many} box")


class ShelfRequestsTest(DeskTest):
    def test_no_stock(self):
        rows = ["ask 1 cup", "ask -", "arrive 1 cup", "undo", "left", "served", "arrived", "opened", "often 1 cup",
                "often -"]
        self.check(BOX, *[each for row in rows for each in (row, "no stock")])
        self.check(BOX, "undo", "no stock", "stock -", "ok", "undo", "refused NoDeed", "left", "-")

    def test_a_shelf(self):
        self.check(
            BOX, "stock 2 box", "ok", "left", "2 box", "served", "-", "arrived", "-", "opened", "-",
            "ask 1 cup", "1 x box = 3 pair; 1 x pair = 2 cup", "left", "1 box 1 cup 2 pair", "served", "1 cup",
            "ask 1 cup", "-", "served", "2 cup", "arrive 1 box 2 hat", "ok", "arrived", "1 box 2 hat",
            "left", "2 box 2 hat 2 pair", "arrive -", "ok", "arrive 1 hat", "ok", "arrived", "1 box 3 hat",
            "ask 7 pair", "2 x box = 3 pair", "opened", "3 x box = 3 pair; 1 x pair = 2 cup", "often 1 cup", "2",
            "often 1 hat", "3", "often 1 tea", "0", "ask -", "-",
        )

    def test_undo(self):
        self.check(
            BOX, "stock 1 box", "ok", "ask 1 pair", "1 x box = 3 pair", "arrive 1 hat", "ok", "ask -", "-",
            "undo", "ok", "undo", "ok", "left", "2 pair", "arrived", "-", "undo", "ok", "left", "1 box", "opened", "-",
            "served", "-", "undo", "refused NoDeed", "left", "1 box",
        )

    def test_refused_requests_change_nothing(self):
        self.check(
            BOX, "stock 2 box", "ok", "ask 1 pair", "1 x box = 3 pair", "ask 2 box", "refused Short box 1",
            "ask 19 cup", "refused Short box 2", "ask 1 ant 1 box 3 pair", "refused Short ant 1",
            "often -", "refused Nothing", "left", "1 box 2 pair", "served", "1 pair", "opened", "1 x box = 3 pair",
            "undo", "ok", "undo", "refused NoDeed", "left", "2 box",
        )

    def test_another_stock(self):
        self.check(
            BOX, "stock 1 box", "ok", "ask 1 pair", "1 x box = 3 pair", "stock 5 cup", "ok", "left", "5 cup",
            "served", "-", "opened", "-", "undo", "refused NoDeed", "ask 6 cup", "refused Short box 1",
            "ask 5 cup", "-", "stock -", "ok", "left", "-",
        )

    def test_a_stock_that_is_refused(self):
        self.check(
            "gift = 2 cup 1 tea\nrack = 4 cup", "stock 1 gift", "refused Regretted cup", "left", "no stock",
            "ask 1 cup", "no stock", "stock -", "refused Regretted cup", "undo", "no stock", "often -", "no stock",
        )

    def test_forked_kinds_on_a_shelf(self):
        self.check(
            "y = 2 p\ny = 3 q", "stock 9 y", "ok", "ask 3 p 3 q", "2 x y = 2 p; 1 x y = 3 q", "left", "1 p 6 y",
            "often 2 p 2 q", "3", "ask 99 q", "refused Short y 27", "numbers 1 y", "refused Forked y",
        )

    def test_great_numbers(self):
        self.check(
            f"a = {GREAT} b\nb = {GREAT} c", f"stock {GREAT} a", "ok", "often 1 c", str(GREAT ** 3), "ask 1 c",
            f"1 x a = {GREAT} b; 1 x b = {GREAT} c", "left", f"{GREAT - 1} a {GREAT - 1} b {GREAT - 1} c",
            "numbers 1 a", f"1 a {GREAT} b {GREAT ** 2} c",
        )


class BookRequestsTest(DeskTest):
    def test_lists(self):
        self.check("-", "shared", "-", "forked", "-", "idle", "-", "form", "-")
        self.check(BOX, "shared", "-", "forked", "-", "idle", "-", "form", "box = 3 pair; pair = 2 cup")
        self.check(
            "z = 1 y\nz = 1 w\nb = 1 d\nb = 1 c\nb = 1 e\nm = 1 y\nk = 2 c 1 y", "shared", "c y", "forked", "b z",
            "form", "b = 1 c; b = 1 d; b = 1 e; k = 2 c 1 y; m = 1 y; z = 1 w; z = 1 y",
        )
        self.check(
            "case = 2 pack\ncase = 4 cup\ncase = 3 cup\npack = 2 cup", "idle", "case = 3 cup; case = 4 cup",
            "form", "case = 2 pack; pack = 2 cup", "shared", "-", "forked", "-",
        )

    def test_gives(self):
        self.check(
            BOX, "gives 1 box > 6 cup", "yes", "gives 1 box > 7 cup", "no", "gives 6 cup > 1 box", "no",
            "gives - > -", "yes", "gives 1 box > -", "yes", "gives - > 1 hat", "no",
            "gives 1 box 1 hat > 1 hat 3 pair", "yes",
        )
        self.check("y = 1 p\ny = 1 q\nz = 1 p\nz = 1 q", "gives 1 y 1 z > 1 p 1 q", "yes", "gives 1 y > 1 p 1 q", "no")

    def test_numbers_meet_and_join(self):
        self.check(
            "y = 1 a 2 k\nz = 3 k\nk = 2 m", "numbers 1 y 1 z", "1 a 5 k 10 m 1 y 1 z", "numbers -", "-",
            "meet 1 y 1 z & 4 k 1 y", "3 k 1 y", "join 1 y 1 z & 4 k 1 y", "1 k 1 y 1 z", "meet 1 y & 1 hat", "-",
            "join - & -", "-", "stock 1 y", "refused Regretted k", "numbers 1 hat", "1 hat",
        )

    def test_forked(self):
        rows = ["numbers -", "meet - & -", "join 1 y & 1 z"]
        self.check("z = 1 p\nz = 1 q\nb = 1 p\nb = 1 q", *[each for row in rows for each in (row, "refused Forked b")])

    def test_a_shelf_is_not_needed_nor_changed(self):
        self.check(
            BOX, "gives 1 box > 1 cup", "yes", "stock 1 box", "ok", "ask 1 pair", "1 x box = 3 pair", "form",
            "box = 3 pair; pair = 2 cup", "meet 1 box & 1 cup", "1 cup", "numbers 1 pair", "2 cup 1 pair",
            "left", "2 pair", "undo", "ok", "undo", "refused NoDeed",
        )


class TogetherTest(DeskTest):
    """The desk says what the functions and the Shelf say."""

    def test_small_books(self):
        chance, books = brute.books(80, 250)
        for book in books:
            one, other = brute.lot_of(chance, book, 10), brute.lot_of(chance, book, 10)
            rows = [
                "shared", " ".join(shared(book)) or "-", "forked", " ".join(forked(book)) or "-",
                "idle", "; ".join(row.text() for row in idle(book)) or "-",
                "form", "; ".join(row.text() for row in form(book).openings()) or "-",
                f"gives {one.text()} > {other.text()}", "yes" if gives(book, one, other) else "no",
            ]
            both = f"{one.text()} & {other.text()}"
            if forked(book):
                told = [f"refused Forked {forked(book)[0]}"] * 3
            else:
                told = [made.text() for made in (numbers(book, one), meet(book, one, other), join(book, one, other))]
            rows.extend(each for pair in zip((f"numbers {one.text()}", f"meet {both}", f"join {both}"), told)
                        for each in pair)
            if shared(book):
                rows.extend([f"stock {one.text()}", f"refused Regretted {shared(book)[0]}", "left", "no stock"])
            else:
                shelf = Shelf(book, one)
                rows.extend([f"stock {one.text()}", "ok"])
                if other in shelf:
                    plan = shelf.serve(other)
                    text = "; ".join(f"{plan[row]} x {row.text()}" for row in plan.openings()) or "-"
                    rows.extend([f"ask {other.text()}", text, "left", shelf.stock.text()])
            self.check(book.text(), *rows)
