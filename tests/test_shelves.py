"""[9]: the least Plan of an ask, what it leaves, and Shelves."""

import unittest

from onceopened.books import Book, Opening
from onceopened.errors import NoDeed, Nothing, Regretted, Short
from onceopened.forms import form
from onceopened.lots import Lot
from onceopened.plans import Plan, gives
from onceopened.regrets import shared
from onceopened.shelves import Shelf, least, leftover, unshared
from tests import brute

GREAT = 10 ** 12
BOX = Book.of("box = 3 pair\npair = 2 cup")
# No kind lies in two openings that count: the opening into 3 one is idle.
LATENT = Book.of("four = 3 one\nfour = 2 two\ntwo = 2 one")
FORKED = Book.of("y = 2 p\ny = 3 q\nz = 1 w 2 y")


def lot(text):
    return Lot.of(text)


def told(plan):
    return "; ".join(f"{plan[opening]} x {opening.text()}" for opening in plan.openings()) or "-"


def refused(case, call, kind, lacking):
    """Whether a call raises Short with these values, and as a ValueError."""
    with case.assertRaises(Short) as caught:
        call()
    case.assertEqual((caught.exception.kind, caught.exception.lacking), (kind, lacking))
    case.assertIsInstance(caught.exception, ValueError)


class LeastTest(unittest.TestCase):
    def check(self, book, stock, ask, plan, left):
        start, asked = lot(stock), lot(ask)
        self.assertEqual(told(least(book, start, asked)), plan)
        self.assertEqual(least(ask=asked, stock=start, book=book), least(book, start, asked))
        self.assertEqual(leftover(book, start, asked).text(), left)
        more = leftover(ask=asked, stock=start, book=book)
        more += lot("1 hat")
        self.assertEqual((start.text(), asked.text()), (stock, ask))
        self.assertEqual(least(book, start, asked).after(start) - asked, lot(left))

    def test_boxes(self):
        self.check(BOX, "1 box 1 cup", "3 cup 1 pair", "1 x box = 3 pair; 1 x pair = 2 cup", "1 pair")
        self.check(BOX, "2 box", "1 cup", "1 x box = 3 pair; 1 x pair = 2 cup", "1 box 1 cup 2 pair")
        self.check(BOX, "2 box", "12 cup", "2 x box = 3 pair; 6 x pair = 2 cup", "-")
        self.check(BOX, "2 box", "11 cup", "2 x box = 3 pair; 6 x pair = 2 cup", "1 cup")
        self.check(BOX, "2 box", "1 box 3 pair", "1 x box = 3 pair", "-")
        self.check(BOX, "5 cup 2 pair", "4 cup", "-", "1 cup 2 pair")
        self.check(BOX, "5 cup 2 pair", "4 cup 2 pair", "-", "1 cup")
        self.check(BOX, "2 box", "-", "-", "2 box")
        self.check(BOX, "-", "-", "-", "-")
        self.check(BOX, "1 box 2 hat", "1 hat", "-", "1 box 1 hat")
        self.check(Book(), "2 cup", "1 cup", "-", "1 cup")

    def test_forked_kinds(self):
        self.check(FORKED, "3 y", "1 p 1 q", "1 x y = 2 p; 1 x y = 3 q", "1 p 2 q 1 y")
        self.check(FORKED, "1 y 2 z", "3 p 4 q", "2 x y = 2 p; 2 x y = 3 q; 2 x z = 1 w 2 y", "1 p 2 q 2 w 1 y")
        self.check(FORKED, "1 q 2 y", "4 p 1 q", "2 x y = 2 p", "-")

    def test_only_the_form_counts(self):
        self.check(LATENT, "1 four", "3 one", "1 x four = 2 two; 2 x two = 2 one", "1 one")
        self.check(LATENT, "1 four", "1 one", "1 x four = 2 two; 1 x two = 2 one", "1 one 1 two")

    def test_short(self):
        for book, stock, ask, kind, lacking in (
            (BOX, "2 box", "13 cup", "box", 1), (BOX, "2 box", "19 cup", "box", 2), (BOX, "-", "1 pair", "box", 1),
            (BOX, "2 box", "1 hat", "hat", 1), (BOX, "2 box", "5 ant 13 cup", "ant", 5),
            (BOX, "2 box", "13 cup 5 hat", "box", 1), (BOX, "2 hat", "5 hat", "hat", 3),
            (BOX, "1 box 1 cup", "1 box 2 cup", "box", 1), (FORKED, "2 y", "3 p 1 q", "z", 1),
            (FORKED, "1 y", "2 p 3 q 1 w", "z", 1),
            (LATENT, "1 four", "5 one", "four", 1), (Book(), "-", "1 cup", "cup", 1),
        ):
            start, asked = lot(stock), lot(ask)
            for call in (lambda: least(book, start, asked), lambda: leftover(book, start, asked),
                         lambda: Shelf(book, start).serve(asked)):
                refused(self, call, kind, lacking)
            self.assertEqual((start.text(), asked.text()), (stock, ask))

    def test_great_numbers(self):
        chain = Book.of("\n".join(f"{one} = {GREAT} {other}" for one, other in zip("abcdefg", "bcdefgh")))
        stock, ask = Lot((("a", GREAT),)), Lot((("h", GREAT ** 8),))
        plan = least(chain, stock, ask)
        self.assertEqual([plan[row] for row in chain.openings()], [GREAT ** at for at in range(1, 8)])
        self.assertEqual(leftover(chain, stock, ask), Lot())
        self.assertEqual(leftover(chain, stock, ask - lot("7 h")), lot("7 h"))
        refused(self, lambda: least(chain, stock, ask + lot("1 h")), "a", 1)
        self.assertEqual(Shelf(chain, stock) // lot("3 h"), GREAT ** 8 // 3)

    def test_great_numbers_in_a_book_that_is_not_plain(self):
        self.assertFalse(LATENT.is_plain())
        stock, ask = Lot((("four", GREAT),)), Lot((("one", 4 * GREAT - 1),))
        plan = least(LATENT, stock, ask)
        self.assertEqual(told(plan), f"{GREAT} x four = 2 two; {2 * GREAT} x two = 2 one")
        self.assertEqual(leftover(LATENT, stock, ask).text(), "1 one")
        self.assertEqual(Shelf(LATENT, stock) // lot("3 one"), 4 * GREAT // 3)

    def test_small_books(self):
        """The least Plan has the least number of each opening, and what it leaves is the only greatest leftover."""
        chance, books = brute.books(30, 1500, worth=8)
        served = refusals = 0
        for book in books:
            if shared(book) == []:
                rows = brute.rows_of(book)
                stock = brute.lot_of(chance, book, 9)
                ask = brute.ask_of(chance, book, stock)
                if brute.gives(rows, stock.pairs(), ask.pairs()):
                    served += 1
                    self.assertEqual([leftover(book, stock, ask).pairs()],
                                     brute.leftovers(rows, stock.pairs(), ask.pairs()))
                    self.check_least(book, stock, ask)
                else:
                    refusals += 1
                    with self.assertRaises(Short):
                        least(book, stock, ask)
        self.assertGreater(min(served, refusals), 30)

    def check_least(self, book, stock, ask):
        """Whether no possible Plan of the form serves the ask with less of any opening."""
        plan = least(book, stock, ask)
        self.assertTrue(plan.fits(form(book)))
        self.assertTrue(ask.within(plan.after(stock)))
        found, waiting = [Plan()], [Plan()]
        while waiting:
            done = waiting.pop()
            for row in form(book).openings():
                more = done + Plan(((row, 1),))
                if done.after(stock)[row.kind] > 0 and more not in found:
                    found.append(more)
                    waiting.append(more)
        serving = [done for done in found if ask.within(done.after(stock))]
        for row in form(book).openings():
            self.assertEqual(plan[row], min(done[row] for done in serving))


class RegrettedTest(unittest.TestCase):
    def test_ahead_of_all_else(self):
        book = Book.of("gift = 2 cup 1 tea\nrack = 1 ant 4 cup\nsix = 1 ant 6 cup")
        stock, ask = lot("1 gift"), lot("9 hat")
        for call in (lambda: least(book, stock, ask), lambda: leftover(book, stock, ask), lambda: Shelf(book, stock),
                     lambda: least(book, stock, lot("1 cup")), lambda: leftover(book, stock, Lot()),
                     lambda: Shelf(book, Lot()), lambda: unshared(book)):
            with self.assertRaises(Regretted) as caught:
                call()
            self.assertEqual(caught.exception.kind, "ant")
            self.assertIsInstance(caught.exception, ValueError)
        self.assertEqual((stock.text(), ask.text(), len(book)), ("1 gift", "9 hat", 3))

    def test_kinds_that_only_idle_openings_share(self):
        self.assertEqual(unshared(LATENT), Book.of("four = 2 two\ntwo = 2 one"))
        self.assertEqual(Shelf(LATENT, lot("1 four")) // lot("1 one"), 4)
        with self.assertRaises(Regretted) as caught:
            Shelf(Book.of("four = 5 one\nfour = 2 two\ntwo = 2 one"), Lot())
        self.assertEqual(caught.exception.kind, "one")


class ShelvesTest(unittest.TestCase):
    def state(self, shelf):
        return shelf.stock.text(), shelf.served().text(), shelf.arrived().text(), told(shelf.opened())


class ShelfTest(ShelvesTest):
    def test_a_new_one(self):
        stock = lot("2 box")
        shelf = Shelf(BOX, stock)
        stock += lot("1 cup")
        self.assertEqual(self.state(shelf), ("2 box", "-", "-", "-"))
        self.assertEqual(self.state(Shelf(stock=stock, book=BOX)), ("2 box 1 cup", "-", "-", "-"))

    def test_serve(self):
        shelf = Shelf(BOX, lot("2 box"))
        ask = lot("3 cup")
        plan = shelf.serve(ask)
        self.assertEqual(told(plan), "1 x box = 3 pair; 2 x pair = 2 cup")
        ask += lot("5 cup")
        self.assertEqual(self.state(shelf), ("1 box 1 cup 1 pair", "3 cup", "-", told(plan)))
        self.assertEqual(told(shelf.serve(ask=lot("1 cup 1 pair"))), "-")
        self.assertEqual(told(shelf.serve(lot("1 pair"))), "1 x box = 3 pair")
        self.assertEqual(self.state(shelf), ("2 pair", "4 cup 2 pair", "-", "2 x box = 3 pair; 2 x pair = 2 cup"))
        self.assertEqual(told(shelf.serve(Lot())), "-")

    def test_signs_change_the_shelf_itself(self):
        shelf = Shelf(BOX, lot("1 box"))
        same = shelf
        shelf -= lot("1 cup")
        self.assertIs(shelf, same)
        self.assertEqual(self.state(same), ("1 cup 2 pair", "1 cup", "-", "1 x box = 3 pair; 1 x pair = 2 cup"))
        more = lot("1 box 1 hat")
        shelf += more
        more += lot("7 hat")
        self.assertIs(shelf, same)
        self.assertEqual(self.state(same)[:3], ("1 box 1 cup 1 hat 2 pair", "1 cup", "1 box 1 hat"))
        shelf += Lot()
        shelf += lot("2 hat")
        self.assertEqual(self.state(same)[:3], ("1 box 1 cup 3 hat 2 pair", "1 cup", "1 box 3 hat"))

    def test_short_changes_nothing(self):
        shelf = Shelf(BOX, lot("2 box"))
        shelf -= lot("1 pair")
        shelf += lot("1 hat")
        kept, same = self.state(shelf), shelf
        refused(self, lambda: shelf.serve(lot("1 box 3 pair")), "box", 1)
        refused(self, lambda: shelf.serve(lot("2 hat")), "hat", 1)
        with self.assertRaises(Short) as caught:
            shelf -= lot("9 cup 3 hat 5 pair")
        self.assertEqual((caught.exception.kind, caught.exception.lacking), ("box", 2))
        self.assertIs(shelf, same)
        self.assertEqual(self.state(shelf), kept)
        shelf.undo()
        self.assertEqual(shelf.arrived(), Lot())

    def test_contains(self):
        shelf = Shelf(BOX, lot("1 box 1 hat"))
        kept = self.state(shelf)
        for ask, expected in (
            ("-", True), ("6 cup", True), ("7 cup", False), ("1 box", True), ("1 box 1 pair", False),
            ("2 cup 2 pair", True), ("3 cup 2 pair", False), ("1 hat 3 pair", True), ("1 tea", False),
        ):
            asked = lot(ask)
            self.assertIs(asked in shelf, expected)
            self.assertEqual(asked.text(), ask)
        self.assertEqual(self.state(shelf), kept)

    def test_often(self):
        shelf = Shelf(BOX, lot("2 box 1 cup 3 hat"))
        kept = self.state(shelf)
        for ask, many in (("1 cup", 13), ("2 cup", 6), ("13 cup", 1), ("14 cup", 0), ("1 box", 2), ("1 pair", 6),
                          ("1 cup 1 pair", 4), ("1 hat", 3), ("2 hat", 1), ("1 cup 1 hat", 3), ("1 tea", 0)):
            self.assertEqual(shelf // lot(ask), many)
            # As often as it is told it can be served one behind the other.
            other = Shelf(BOX, shelf.stock)
            for _ in range(many):
                other -= lot(ask)
            self.assertNotIn(lot(ask), other)
        self.assertEqual(self.state(shelf), kept)

    def test_often_with_forked_kinds(self):
        shelf = Shelf(FORKED, lot("5 y 1 z"))
        for ask, many in (("1 p", 14), ("1 p 1 q", 8), ("1 p 1 y", 4), ("2 p 3 q", 3), ("2 p 3 q 1 w", 1)):
            self.assertEqual(shelf // lot(ask), many)

    def test_nothing(self):
        shelf, empty = Shelf(BOX, lot("1 box")), Lot()
        for each in (shelf, Shelf(Book(), Lot())):
            with self.assertRaises(Nothing):
                each // empty
            with self.assertRaises(ZeroDivisionError):
                each // empty
        self.assertEqual((self.state(shelf), empty), (("1 box", "-", "-", "-"), Lot()))

    def test_what_is_returned_is_new(self):
        shelf = Shelf(BOX, lot("2 box"))
        shelf -= lot("1 cup")
        shelf += lot("1 hat")
        kept = self.state(shelf)
        for each in (shelf.stock, shelf.served(), shelf.arrived()):
            each += lot("5 cup")
            each["hat"] = 0
        self.assertEqual(self.state(shelf), kept)
        opened = shelf.opened()
        shelf -= lot("6 cup")
        self.assertEqual(told(opened), kept[3])
        self.assertIsInstance(vars(Shelf)["stock"], property)
        with self.assertRaises(AttributeError):
            shelf.stock = Lot()


class UndoTest(ShelvesTest):
    def test_no_deed(self):
        shelf = Shelf(BOX, lot("2 box"))
        for _ in range(2):
            with self.assertRaises(NoDeed):
                shelf.undo()
            with self.assertRaises(LookupError):
                shelf.undo()
        shelf -= lot("1 cup")
        self.assertIsNone(shelf.undo())
        with self.assertRaises(NoDeed):
            shelf.undo()
        self.assertEqual(self.state(shelf), ("2 box", "-", "-", "-"))

    def test_one_deed_after_another(self):
        shelf, states = Shelf(BOX, lot("2 box")), []
        for deed, text in (("-", "1 cup"), ("+", "1 hat"), ("-", "-"), ("+", "-"), ("serve", "2 pair"), ("-", "1 hat")):
            states.append(self.state(shelf))
            if deed == "+":
                shelf += lot(text)
            elif deed == "-":
                shelf -= lot(text)
            else:
                shelf.serve(lot(text))
        self.assertEqual(states[2], states[4])
        while states:
            shelf.undo()
            self.assertEqual(self.state(shelf), states.pop())
        with self.assertRaises(NoDeed):
            shelf.undo()

    def test_refused_asks_are_no_deeds(self):
        shelf = Shelf(BOX, lot("1 box"))
        shelf -= lot("1 pair")
        for call in (lambda: shelf.serve(lot("1 box")), lambda: shelf // Lot(), lambda: shelf // lot("1 cup"),
                     lambda: lot("1 cup") in shelf, lambda: lot("1 box") in shelf):
            try:
                call()
            except (Short, Nothing):
                pass
        shelf.undo()
        self.assertEqual(self.state(shelf), ("1 box", "-", "-", "-"))

    def test_deeds_behind_what_was_taken_back(self):
        shelf = Shelf(BOX, lot("2 box"))
        shelf -= lot("1 cup")
        shelf += lot("1 hat")
        shelf.undo()
        shelf -= lot("1 pair")
        shelf.undo()
        self.assertEqual(self.state(shelf), ("1 box 1 cup 2 pair", "1 cup", "-", "1 x box = 3 pair; 1 x pair = 2 cup"))
        shelf.undo()
        self.assertEqual(self.state(shelf), ("2 box", "-", "-", "-"))


class HindsightTest(unittest.TestCase):
    """Guarantee (c): a Shelf serves whatever could be served by one who has known all asks and arrivals ahead."""

    def test_small_books(self):
        chance, books = brute.books(31, 900, worth=7)
        told_of = []
        for book in books:
            if shared(book) == []:
                told_of.extend(self.play(chance, book))
        self.assertGreater(min(told_of.count(True), told_of.count(False)), 200)

    def play(self, chance, book):
        rows = brute.rows_of(book)
        start = brute.lot_of(chance, book, 8)
        shelf, possible, answers = Shelf(book, start), {start.pairs()}, []
        for _ in range(6):
            if chance.random() < 0.3:
                more = brute.one_of(chance.choice(book.kinds() or ["a"]))
                shelf += more
                possible = {brute.added(bag, more.pairs()) for bag in possible}
            else:
                ask = brute.ask_of(chance, book, shelf.stock)
                left = {rest for bag in possible for rest in brute.left_behind(rows, bag, ask.pairs())}
                accepted = ask in shelf
                self.assertIs(accepted, bool(left))
                self.assertEqual(accepted, shelf // ask > 0 if len(ask) > 0 else True)
                if accepted:
                    shelf -= ask
                    possible = left
                else:
                    with self.assertRaises(Short):
                        shelf.serve(ask)
                answers.append(accepted)
            self.check(book, rows, start, shelf, possible)
        return answers

    def check(self, book, rows, start, shelf, possible):
        """Whether the shelf has the best form of all that can be left, and its sums tell how it came to that."""
        self.assertIn(shelf.stock.pairs(), possible)
        for bag in possible:
            self.assertTrue(gives(book, shelf.stock, Lot(bag)))
        self.assertEqual(shelf.opened().after(start + shelf.arrived()), shelf.served() + shelf.stock)
        if len(shelf.arrived()) == 0:
            self.assertEqual(shelf.opened(), least(book, start, shelf.served()))


class GreatShelfTest(unittest.TestCase):
    def test_great_arrivals(self):
        book = Book.of(f"a = {GREAT} b\nb = 7 c")
        shelf = Shelf(book, Lot())
        shelf += Lot((("a", GREAT),))
        shelf -= Lot((("c", 7 * GREAT + 1),))
        self.assertEqual(shelf.stock, Lot((("a", GREAT - 2), ("b", GREAT - 1), ("c", 6))))
        row = Opening("b", lot("7 c"))
        self.assertEqual((shelf.opened()[row], shelf // lot("1 c")), (GREAT + 1, 7 * GREAT ** 2 - 7 * GREAT - 1))
