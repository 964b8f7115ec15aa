"""[1]: the guarantees (a) to (f), each over several modules at once."""

import unittest

from onceopened.books import Book
from onceopened.desk import answers
from onceopened.errors import Doubted, Forked, Regretted, Short
from onceopened.forms import alike, covers, form, idle, parted
from onceopened.lattices import is_tree, skew, torn
from onceopened.lots import Lot
from onceopened.numbers import forked, join, lack, lot_of, meet, numbers, times
from onceopened.plans import Plan, gives, plan_for
from onceopened.prices import cheapest, need
from onceopened.regrets import Hand, Regret, asked_only, is_regret, regret, shared
from onceopened.remains import becomes, leftovers
from onceopened.retold import doubt, retold
from onceopened.shelves import Shelf, least, leftover
from onceopened.stocks import holds, unsafe
from tests import brute


def shelf_keeper(book):
    """A keeper that does what a Shelf would do."""
    return lambda stock, asks: least(book, stock, asks[-1])


def greatest_keeper(book):
    """A keeper that leaves the first one of the greatest leftovers."""
    def keeper(stock, asks):
        found = leftovers(book, stock, asks[-1])
        return plan_to(book, stock, found[0] + asks[-1]) if found else Plan()
    return keeper


def plan_to(book, stock, goal):
    """A Plan that leads from a stock to just this Lot, which it becomes."""
    waiting = [(stock, Plan())]
    while waiting:
        lot, done = waiting.pop()
        if lot == goal:
            return done
        for row in book.openings():
            if row.kind in lot:
                one = Plan(((row, 1),))
                waiting.append((one.after(lot), done + one))
    raise AssertionError("the stock does not become this")


class BooksTest(unittest.TestCase):
    """(a): for each Book a keeper that never regrets, or a Regret that beats all keepers."""

    def test_exactly_one_of_both(self):
        chance, books = brute.books(90, 400, worth=8)
        told = []
        for book in books:
            found = regret(book)
            told.append(found is None)
            if found is None:
                self.never_regrets(chance, book)
            else:
                self.beats(book, found)
        self.assertGreater(min(told.count(True), told.count(False)), 80)

    def never_regrets(self, chance, book):
        stock = brute.lot_of(chance, book, 10)
        self.assertEqual((shared(book), answers(book.text() + "\n\nshared")), ([], ["-"]))
        self.assertIsNone(unsafe(book, stock))
        keeper, left, asked = shelf_keeper(book), stock, []
        for _ in range(5):
            ask = brute.ask_of(chance, book, left)
            if not gives(book, stock, sum(asked + [ask], Lot())):
                with self.assertRaises(Short):
                    keeper(left, asked + [ask])
                continue
            asked.append(ask)
            plan = keeper(left, asked)
            self.assertTrue(plan.fits(book))
            left = plan.after(left) - ask

    def beats(self, book, found):
        kind = shared(book)[0]
        none = Lot()
        for call in (lambda: Shelf(book, none), lambda: least(book, none, none), lambda: leftover(book, none, none)):
            with self.assertRaises(Regretted) as caught:
                call()
            self.assertEqual(caught.exception.kind, kind)
        self.assertIs(is_tree(book), False)
        self.assertEqual(answers(book.text() + "\n\nstock -"), [f"refused Regretted {kind}"])
        for keeper in (Hand(book), greatest_keeper(book)):
            asks = found.beat(keeper, Lot())
            self.assertEqual(len(asks), 2)
            self.assertTrue(gives(book, found.stock, asks[0] + asks[1]))
        if book.worth(found.stock) <= 10:
            self.assertIsNotNone(unsafe(book, found.stock))
            rows = [found.ask + found.first, found.ask + found.second]
            self.assertIs(holds(book, found.stock, rows[:1]) and holds(book, found.stock, rows[1:]), True)
            self.assertIs(holds(book, found.stock, rows), False)

    def test_customers_who_ask_for_some_kinds_alone(self):
        chance, books = brute.books(91, 400, worth=8)
        told = []
        for book in books:
            kinds = [kind for kind in book.kinds() if kind not in forked(book)[1:] and chance.random() < 0.7]
            kinds = sorted(set(kinds + forked(book)))
            few = asked_only(book, kinds)
            self.assertEqual(few, asked_only(form(book), kinds))
            found = regret(few)
            told.append(found is None)
            if found is not None:
                # The same lots are a regret where all the kinds are known.
                self.assertTrue(is_regret(book, found.stock, found.ask, found.first, found.second))
        self.assertGreater(min(told.count(True), told.count(False)), 50)


class SingleStocksTest(unittest.TestCase):
    """(b): for each stock a keeper that never regrets, or a Regret with this stock."""

    def test_exactly_one_of_both(self):
        chance, books = brute.books(92, 700, worth=8)
        told = []
        for book in books:
            stock = brute.lot_of(chance, book, 8)
            found = unsafe(book, stock)
            told.append(found is None)
            if found is None:
                self.never_regrets(chance, book, stock)
            else:
                self.assertIsInstance(found, Regret)
                self.assertNotEqual(shared(book), [])
                self.assertGreater(len(leftovers(book, stock, found.ask)), 1)
                for keeper in (Hand(book), greatest_keeper(book)):
                    self.assertEqual(len(found.beat(keeper, Lot())), 2)
                if form(book).is_plain():
                    both = join(book, found.first, found.second)
                    self.assertIs(gives(book, stock, found.ask + both), False)
        self.assertGreater(min(told.count(True), told.count(False)), 60)

    def never_regrets(self, chance, book, stock):
        left, asked = stock, Lot()
        for _ in range(4):
            ask = brute.ask_of(chance, book, left)
            found = leftovers(book, left, ask)
            self.assertIs(bool(found), gives(book, stock, asked + ask))
            if found:
                self.assertEqual(len(found), 1)
                left, asked = found[0], asked + ask
                self.assertEqual(left, leftovers(book, stock, asked)[0])


class ShelvesTest(unittest.TestCase):
    """(c): a Shelf has the best form of what is left, as leftovers, numbers, the desk and plans tell it, too."""

    def test_rows_of_asks(self):
        chance, books = brute.books(93, 700, worth=8)
        served = 0
        for book in books:
            if shared(book) == []:
                start = brute.lot_of(chance, book, 10)
                shelf, lines, told = Shelf(book, start), [f"stock {start.text()}"], ["ok"]
                for _ in range(4):
                    ask = brute.ask_of(chance, book, shelf.stock)
                    lines.extend([f"ask {ask.text()}", "left"])
                    served += self.step(book, start, shelf, ask, told)
                self.assertEqual(answers("\n".join([book.text(), ""] + lines)), told)
        self.assertGreater(served, 100)

    def step(self, book, start, shelf, ask, told):
        """One ask; whether it was served."""
        possible = gives(book, start, shelf.served() + ask)
        self.assertIs(ask in shelf, possible)
        best = leftovers(book, shelf.stock, ask)
        self.assertEqual(len(best), int(possible))
        if len(ask) > 0:
            self.assertTrue(gives(book, shelf.stock, ask * (shelf // ask)))
            self.assertFalse(gives(book, shelf.stock, ask * (shelf // ask + 1)))
            if forked(book) == []:
                self.assertEqual(shelf // ask, times(book, shelf.stock, ask))
        try:
            plan = shelf.serve(ask)
            told.append("; ".join(f"{plan[row]} x {row.text()}" for row in plan.openings()) or "-")
            self.assertEqual(shelf.stock, best[0])
            self.assertEqual(shelf.stock, leftover(book, start, shelf.served()))
        except Short as short:
            told.append(f"refused Short {short.kind} {short.lacking}")
        told.append(shelf.stock.text())
        return possible


class FormsTest(unittest.TestCase):
    """(d): Books that give the same have one form, and all modules tell the same of them."""

    def test_books_that_are_alike(self):
        chance, books = brute.books(94, 300, worth=8)
        for book in books:
            same = form(book)
            self.assertTrue(alike(book, same) and parted(book, same) is None)
            self.assertEqual((shared(book), forked(book), is_tree(book)), (shared(same), forked(same), is_tree(same)))
            self.assertEqual((idle(same), doubt(same) is None or doubt(book) is not None), ([], True))
            stock = brute.lot_of(chance, book, 8)
            ask = brute.ask_of(chance, book, stock)
            self.assertEqual(leftovers(book, stock, ask), leftovers(same, stock, ask))
            self.assertIs(unsafe(book, stock) is None, unsafe(same, stock) is None)
            if shared(book) == [] and gives(book, stock, ask):
                self.assertEqual(least(book, stock, ask), least(same, stock, ask))
            if forked(book) == []:
                self.assertEqual(numbers(book, stock), numbers(same, stock))
                self.assertEqual(lack(book, stock, ask), lack(same, stock, ask))

    def test_books_that_are_parted(self):
        chance, books = brute.books(95, 300, kinds="abcd")
        told = []
        for one, other in zip(books, books[1:] + books[:1]):
            if chance.random() < 0.4:
                other = form(one)
            row = parted(one, other)
            told.append(row is None)
            self.assertIs(row is None, form(one) == form(other))
            self.assertIs(row is None, covers(one, other) and covers(other, one))
            if row is not None:
                piece = brute.one_of(row.kind)
                self.assertNotEqual(gives(one, piece, row.contents), gives(other, piece, row.contents))
                self.assertNotEqual(plan_for(one, piece, row.contents) is None,
                                    plan_for(other, piece, row.contents) is None)
        self.assertGreater(min(told.count(True), told.count(False)), 50)


class LatticesTest(unittest.TestCase):
    """(e): numbers decide, and meet and join exist, exactly if no kind is forked; they distribute exactly in trees."""

    def test_books(self):
        chance, books = brute.books(96, 500, worth=8)
        told = []
        for book in books:
            one = brute.lot_of(chance, book, 10)
            other = brute.ask_of(chance, book, one)
            if forked(book) == []:
                told.append(is_tree(book))
                self.lattice(book, one, other)
            else:
                told.append(None)
                self.torn(book, one, other)
        self.assertGreater(min(told.count(answer) for answer in (True, False, None)), 50)

    def lattice(self, book, one, other):
        self.assertIsNone(torn(book))
        self.assertIs(lack(book, one, other) is None, gives(book, one, other))
        self.assertIs(numbers(book, other).within(numbers(book, one)), gives(book, one, other))
        common, both = meet(book, one, other), join(book, one, other)
        for stock, ask in ((one, common), (other, common), (both, one), (both, other), (one + other, both)):
            self.assertTrue(gives(book, stock, ask))
        self.assertEqual(lot_of(book, numbers(book, both)), both)
        self.assertIs(skew(book) is None, is_tree(book))
        self.assertIs(skew(book) is None, regret(book) is None)
        if is_tree(book):
            self.assertEqual(common + both, one + other)
            self.assertEqual(need(book, [[one, other]]), both)
            prices = dict.fromkeys(book.kinds() + other.kinds(), 1)
            bought = cheapest(book, one, other, prices)
            self.assertTrue(gives(book, one + bought, other))
            self.assertIs(len(bought) == 0, gives(book, one, other))
        else:
            top, left, right = skew(book)
            self.assertNotEqual(meet(book, top, join(book, left, right)),
                                join(book, meet(book, top, left), meet(book, top, right)))
            with self.assertRaises(Regretted) as caught:
                need(book, [[one]])
            self.assertEqual(caught.exception.kind, shared(book)[0])

    def torn(self, book, one, other):
        first = forked(book)[0]
        for call in (lambda: numbers(book, one), lambda: meet(book, one, other), lambda: join(book, one, other),
                     lambda: skew(book), lambda: need(book, [[one]]), lambda: cheapest(book, one, other, {})):
            with self.assertRaises(Forked) as caught:
                call()
            self.assertEqual(caught.exception.kind, first)
        left, right, part, rest = torn(book)
        for bag in brute.given(brute.rows_of(book), left.pairs()):
            if gives(book, right, Lot(bag)):
                self.assertFalse(gives(book, Lot(bag), part) and gives(book, Lot(bag), rest))
        self.assertEqual(answers(f"{book.text()}\n\nnumbers -"), [f"refused Forked {first}"])


class ToldBackTest(unittest.TestCase):
    """(f): stocks alone tell what was opened, on a Shelf, by a Hand and by becoming; or two Plans are shown."""

    def test_books(self):
        chance, books = brute.books(97, 500, worth=8)
        told = []
        for book in books:
            stock = brute.lot_of(chance, book, 10)
            found = doubt(book)
            told.append(found is None)
            if found is None:
                self.told_back(chance, book, stock)
            else:
                start, first, second = found
                self.assertTrue(first.fits(book) and second.fits(book) and first != second)
                self.assertEqual(first.after(start), second.after(start))
                self.assertIs(gives(book, start, first.after(start)), True)
                with self.assertRaises(Doubted):
                    retold(book, start, Lot(), first.after(start))
        self.assertGreater(min(told.count(True), told.count(False)), 100)

    def told_back(self, chance, book, stock):
        lots = becomes(book, stock)
        for lot in lots:
            self.assertEqual(retold(book, stock, Lot(), lot).after(stock), lot)
        ask = brute.ask_of(chance, book, stock)
        plan = Hand(book)(stock, (ask,))
        self.assertEqual(retold(book, stock, Lot(), plan.after(stock)), plan)
        if shared(book) == [] and gives(book, stock, ask):
            shelf = Shelf(book, stock)
            shelf -= ask
            shelf += ask
            while ask in shelf and len(ask) > 0:
                shelf -= ask
            self.assertEqual(retold(book, stock + shelf.arrived(), shelf.served(), shelf.stock), shelf.opened())
