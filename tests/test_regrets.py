"""[8]: where a keeper fails, whatever it does."""

import unittest

from onceopened.books import Book, Opening
from onceopened.errors import Forked, NoRegret, Taken
from onceopened.forms import form
from onceopened.lots import Lot
from onceopened.plans import Plan, gives
from onceopened.regrets import Hand, Regret, asked_only, is_regret, regret, shared
from tests import brute

GREAT = 10 ** 12
CASE = Book.of("case = 1 cup 1 pack\npack = 2 cup")
# The opening into 4 one is idle, so that no kind lies in two openings that count.
FEW = Book.of("four = 2 two\nfour = 4 one\ntwo = 2 one")


def lot(text):
    return Lot.of(text)


def lots(*texts):
    return [lot(text) for text in texts]


def texts(row):
    return tuple(each.text() for each in row)


def case_regret():
    return Regret(CASE, *lots("1 case 1 pack", "1 cup", "1 case", "2 pack"))


class SharedTest(unittest.TestCase):
    def test_kinds_in_two_openings_of_the_form(self):
        for text, kinds in (
            ("-", []), ("box = 3 pair\npair = 2 cup", []), ("gift = 2 cup 1 tea\nsix = 6 cup", ["cup"]),
            ("y = 1 p\ny = 1 q", []), ("y = 1 p\ny = 1 q\nz = 1 p\nz = 1 q", ["p", "q"]),
            ("y = 1 p 1 q\ny = 2 p", ["p"]), ("four = 4 one\nfour = 2 two\ntwo = 2 one", []),
            ("four = 5 one\nfour = 2 two\ntwo = 2 one", ["one"]), ("a = 1 z\nb = 1 z\nc = 1 m\nd = 1 m", ["m", "z"]),
        ):
            book = Book.of(text)
            self.assertEqual(shared(book), kinds)
            self.assertIsInstance(shared(book), list)
            shared(book).append("other")
            self.assertEqual(shared(book=book), kinds)
            self.assertEqual(book.text(), text)


class RegretOfABookTest(unittest.TestCase):
    def check(self, book):
        """Whether a Regret is found exactly if there is one, and holds what it promises."""
        found = regret(book)
        self.assertIs(found is None, shared(book) == [])
        if found is not None:
            self.assertIsInstance(found, Regret)
            self.assertIn(abs(found.stock), (1, 2))
            self.assertEqual(abs(found.ask), 1)
            self.assertTrue(is_regret(book, found.stock, found.ask, found.first, found.second))
            again = regret(book=book)
            self.assertEqual(
                texts((found.stock, found.ask, found.first, found.second)),
                texts((again.stock, again.ask, again.first, again.second)),
            )
        return found

    def test_none(self):
        for book in (Book(), FEW, Book.of("box = 3 pair\npair = 2 cup"), Book.of("y = 1 p\ny = 1 q")):
            self.assertIsNone(self.check(book))

    def test_books(self):
        for text in (
            "gift = 2 cup 1 tea\nsix = 6 cup", "case = 1 cup 1 pack\npack = 2 cup", "y = 1 p 1 q\ny = 2 p",
            "a = 1 b 1 k\nb = 1 k 1 m", "b = 1 a 1 k\na = 1 k 1 m", "a = 2 k\nb = 3 a 5 k",
            "a = 1 b\na = 1 k 1 m\nb = 1 k", "a = 1 c 1 k\nb = 1 k 1 m\nc = 2 b",
            f"a = {GREAT} k\nb = {GREAT - 1} k", f"b = {GREAT} a {GREAT} k\na = {GREAT} k",
            f"a = {GREAT} b\nb = {GREAT} c 1 k\nc = {GREAT} k", f"z = {GREAT} m\na = {GREAT} m {GREAT} z",
        ):
            book = Book.of(text)
            self.assertIsNotNone(self.check(book), text)
            self.assertEqual(book, Book.of(text))

    def test_one_piece_is_enough_if_its_own_openings_share_a_kind(self):
        self.assertEqual(regret(Book.of("y = 1 p 1 q\ny = 2 p")).stock.text(), "1 y")
        self.assertEqual(regret(Book.of("y = 1 p 1 q\nz = 2 p")).stock.text(), "1 y 1 z")

    def test_small_books(self):
        _, books = brute.books(20, 500)
        told = []
        for book in books:
            found = self.check(book)
            told.append(found is None)
            if found is not None:
                bags = [each.pairs() for each in (found.stock, found.ask, found.first, found.second)]
                self.assertTrue(brute.is_regret(brute.rows_of(book), *bags), book.text())
        self.assertGreater(min(told.count(True), told.count(False)), 80)


class IsRegretTest(unittest.TestCase):
    def check(self, book, stock, ask, first, second, expected):
        args = lots(stock, ask, first, second)
        self.assertIs(is_regret(book, *args), expected)
        self.assertIs(is_regret(book, args[0], args[1], args[3], args[2]), expected)
        self.assertIs(is_regret(first=args[2], second=args[3], ask=args[1], stock=args[0], book=book), expected)
        self.assertEqual(texts(args), (stock, ask, first, second))

    def test_stocks(self):
        self.check(CASE, "1 case 1 pack", "1 cup", "1 case", "2 pack", True)
        self.check(CASE, "1 case 1 pack", "1 cup", "1 pack", "1 case 1 cup", False)
        # The stock gives not both of them.
        self.check(CASE, "1 case 1 pack", "1 cup", "1 case", "3 pack", False)
        self.check(CASE, "1 case 1 pack", "1 cup", "1 case 1 pack", "2 pack", False)
        self.check(CASE, "1 case 1 pack", "1 hat", "1 case", "2 pack", False)
        self.check(CASE, "-", "-", "-", "-", False)
        # With nothing asked, nothing is opened too early.
        self.check(CASE, "1 case 1 pack", "-", "1 case", "2 pack", False)
        # With a loose cup both can still be served.
        self.check(CASE, "1 case 1 cup 1 pack", "1 cup", "1 case", "2 pack", False)
        self.check(CASE, "1 case 1 hat 1 pack", "1 cup", "1 case 1 hat", "2 pack", True)
        self.check(CASE, "1 case 1 pack", "1 cup", "1 case 1 cup", "1 cup 2 pack", False)

    def test_each_alone_need_be_given_not_both_together(self):
        # What is left gives p, and gives q, but not both.
        self.check(Book.of("y = 1 p\ny = 1 q"), "1 y", "-", "1 p", "1 q", False)
        self.check(Book.of("y = 1 p\ny = 1 q"), "2 y", "1 p", "1 p", "1 q", False)
        self.check(Book.of("y = 1 p\ny = 1 q\nz = 1 p"), "1 y 1 z", "1 p", "1 p", "1 q", False)
        self.check(Book.of("y = 1 p\ny = 1 q\nz = 1 p\nz = 1 r"), "1 y 1 z", "1 p", "1 q", "1 r", True)

    def test_no_kind_is_shared(self):
        self.check(FEW, "1 four 1 two", "1 one", "1 four 1 one", "1 one 2 two", False)
        self.check(Book.of("y = 2 p\ny = 2 q"), "2 y", "1 p", "1 p 1 y", "1 p 2 q", False)
        many = Lot((("y", GREAT),))
        plain = Book.of(f"y = {GREAT} p\ny = {GREAT} q")
        self.assertIs(is_regret(plain, many, lot("1 p"), Lot((("p", GREAT),)), Lot((("q", GREAT),))), False)

    def test_great_numbers_in_a_plain_book(self):
        book = Book.of(f"y = {GREAT} k 1 m\nz = {GREAT} k 1 n")
        both, ask = Lot((("y", GREAT), ("z", GREAT))), Lot((("k", GREAT),))
        first, second = both - lot("1 y"), both - lot("1 z")
        self.assertIs(is_regret(book, both, ask, first, second), True)
        self.assertIs(is_regret(book, both, ask, first, first), False)
        self.assertIs(is_regret(book, both, ask, first, second - lot("1 y")), False)
        self.assertIs(is_regret(book, both + lot("1 k"), ask, first, second), True)
        self.assertIs(is_regret(book, both + ask, ask, first, second), False)
        self.assertIs(is_regret(book, both, ask + lot("1 k"), first, second), False)

    def test_small_books_against_the_definition(self):
        chance, books = brute.books(21, 1500, worth=8)
        told = []
        for book in books:
            rows = brute.rows_of(book)
            stock = brute.lot_of(chance, book, 9)
            # The ask lies in two Lots that the stock becomes, and the further ones are left behind it, as a rule: so
            # some of them are regrets.
            bags = sorted(brute.becomes(rows, stock.pairs()))
            ask = Lot(chance.choice(bags)) & Lot(chance.choice(bags))
            left = sorted(brute.left_behind(rows, stock.pairs(), ask.pairs()))
            first, second = chance.choice(left), chance.choice(left)
            expected = brute.is_regret(rows, stock.pairs(), ask.pairs(), first, second)
            args = (book, stock, ask, Lot(first), Lot(second))
            self.assertIs(is_regret(*args), expected)
            told.append(expected)
            if expected:
                Regret(*args)
            else:
                with self.assertRaises(NoRegret):
                    Regret(*args)
        self.assertGreater(min(told.count(True), told.count(False)), 25)


class RegretTest(unittest.TestCase):
    def test_no_regret(self):
        for args in (("1 case 1 pack", "1 cup", "1 pack", "1 case 1 cup"), ("-", "-", "-", "-"),
                     ("1 case", "1 hat", "-", "-")):
            with self.assertRaises(NoRegret):
                Regret(CASE, *lots(*args))
            with self.assertRaises(ValueError):
                Regret(CASE, *lots(*args))

    def test_its_lots(self):
        args = lots("1 case 1 pack", "1 cup", "1 case", "2 pack")
        found = Regret(second=args[3], first=args[2], ask=args[1], stock=args[0], book=CASE)
        for each in args:
            each += lot("5 cup")
        expected = ("1 case 1 pack", "1 cup", "1 case", "2 pack")
        for _ in range(2):
            told = (found.stock, found.ask, found.first, found.second)
            self.assertEqual(texts(told), expected)
            for each in told:
                each += lot("1 hat")
        for name in ("stock", "ask", "first", "second"):
            self.assertIsInstance(vars(Regret)[name], property)
            with self.assertRaises(AttributeError):
                setattr(found, name, Lot())

    def check_plans(self, book, found):
        plans = found.plans()
        self.assertIsInstance(plans, tuple)
        self.assertEqual(len(plans), 2)
        for plan, further in zip(plans, (found.first, found.second)):
            self.assertIsInstance(plan, Plan)
            self.assertTrue(plan.fits(book))
            self.assertTrue((found.ask + further).within(plan.after(found.stock)))
        self.assertEqual(found.plans(), plans)

    def test_plans(self):
        self.check_plans(CASE, case_regret())
        self.assertEqual(texts(plan.after(lot("1 case 1 pack")) for plan in case_regret().plans()),
                         ("1 case 2 cup", "1 cup 2 pack"))
        for book in brute.books(22, 200)[1]:
            found = regret(book)
            if found is not None:
                self.check_plans(book, found)
        great = Book.of(f"a = {GREAT} b\nb = {GREAT} c 1 k\nc = {GREAT} k")
        self.check_plans(great, regret(great))

    def test_rows(self):
        found = case_regret()
        for ahead in (0, 1, 3, 30):
            rows = found.rows(ahead, "hat")
            self.assertIsInstance(rows, tuple)
            self.assertEqual([type(row) for row in rows], [tuple, tuple])
            self.assertEqual(texts(rows[0]), ("1 cup",) + ("1 hat",) * ahead + ("1 case",))
            self.assertEqual(texts(rows[1]), ("1 cup",) + ("1 hat",) * ahead + ("2 pack",))
            self.assertEqual(found.rows(kind="hat", ahead=ahead), rows)

    def test_rows_have_a_lot_of_its_own_at_each_place(self):
        found = case_regret()
        one, other = found.rows(3, "hat")
        for many, each in enumerate(one + other):
            each["tea"] = many + 1
        self.assertEqual([each["tea"] for each in one + other], list(range(1, 11)))
        self.assertEqual(texts(found.rows(1, "hat")[0]), ("1 cup", "1 hat", "1 case"))
        self.assertEqual(texts((found.ask, found.first, found.second)), ("1 cup", "1 case", "2 pack"))

    def test_each_row_can_be_served_who_knows_it(self):
        found = case_regret()
        for row in found.rows(4, "hat"):
            self.assertTrue(gives(CASE, found.stock + lot("4 hat"), sum(row[1:], row[0])))

    def test_taken(self):
        tea = Regret(CASE, *lots("1 case 1 pack 1 tea", "1 cup", "1 case", "2 pack"))
        idle = Book.of("case = 1 cup 1 pack\npack = 1 cup\npack = 2 cup")
        latent = Regret(idle, *lots("1 case 1 pack", "1 cup", "1 case", "2 pack"))
        for found, kind in ((case_regret(), "case"), (case_regret(), "cup"), (case_regret(), "pack"), (tea, "tea"),
                            (latent, "cup")):
            for ahead in (0, 5):
                with self.assertRaises(Taken) as caught:
                    found.rows(ahead, kind)
                self.assertEqual(caught.exception.kind, kind)
                with self.assertRaises(ValueError):
                    found.rows(ahead, kind)
        self.assertEqual(texts(case_regret().rows(0, "tea")[0]), ("1 cup", "1 case"))


class Keeper:
    """Writes down what it is told, answers as another keeper, and spoils what it was handed."""

    def __init__(self, keeper):
        self.keeper = keeper
        self.told = []

    def __call__(self, *args):
        stock, asks = args
        self.told.append((stock.text(), texts(asks)))
        plan = self.keeper(stock, asks)
        stock += Lot.of("9 case 9 cup 9 pack")
        for ask in asks:
            ask["hat"] = 99
        return plan


class BeatTest(unittest.TestCase):
    def check(self, keeper, extra, told):
        """What the keeper is told, call by call; the last asks are those that are returned."""
        found, added, noted = case_regret(), lot(extra), Keeper(keeper)
        asks = found.beat(noted, added)
        self.assertIsInstance(asks, tuple)
        self.assertEqual(noted.told, told)
        self.assertEqual(texts(asks), told[-1][1])
        self.assertEqual(added.text(), extra)
        for ask in asks:
            ask += lot("1 tea")
        again = Keeper(keeper)
        self.assertEqual(texts(found.beat(extra=added, keeper=again)), told[-1][1])
        self.assertEqual(again.told, told)
        self.assertEqual(texts((found.stock, found.ask, found.first, found.second)),
                         ("1 case 1 pack", "1 cup", "1 case", "2 pack"))

    def by(self, *lines):
        """A keeper that does these Openings, each line once, at the calls in their order."""
        def keeper(stock, asks):
            rows = Book.of(lines[len(asks) - 1]).openings()
            return Plan([(row, 1) for row in rows])
        return keeper

    def test_whichever_pack_is_opened(self):
        self.check(self.by("pack = 2 cup", "-"), "-", [
            ("1 case 1 pack", ("1 cup",)), ("1 case 1 cup", ("1 cup", "2 pack"))])
        self.check(self.by("case = 1 cup 1 pack", "-"), "-", [
            ("1 case 1 pack", ("1 cup",)), ("2 pack", ("1 cup", "1 case"))])

    def test_first_is_asked_if_neither_is_given(self):
        both = "case = 1 cup 1 pack\npack = 2 cup"
        self.check(self.by(both, "-"), "-", [("1 case 1 pack", ("1 cup",)), ("2 cup 1 pack", ("1 cup", "1 case"))])

    def test_a_keeper_that_serves_nothing(self):
        self.check(self.by("-"), "-", [("1 case 1 pack", ("1 cup",))])

    def test_a_plan_that_is_not_possible(self):
        self.check(lambda stock, asks: Plan([(Opening("pack", lot("2 cup")), 3)]), "-", [("1 case 1 pack", ("1 cup",))])

    def test_a_plan_that_does_not_fit_the_book(self):
        for line in ("pack = 3 cup", "case = 2 cup", "pack = 1 cup 1 pin"):
            self.check(self.by(line), "-", [("1 case 1 pack", ("1 cup",))])
        self.check(self.by("pack = 2 cup\nbox = 1 cup"), "-", [("1 case 1 pack", ("1 cup",))])

    def test_extra_that_is_served_from_itself(self):
        self.check(self.by("-", "pack = 2 cup", "-"), "2 hat", [
            ("1 case 2 hat 1 pack", ("2 hat",)), ("1 case 1 pack", ("2 hat", "1 cup")),
            ("1 case 1 cup", ("2 hat", "1 cup", "2 pack"))])
        self.check(self.by("-", "case = 1 cup 1 pack", "-"), "1 pack", [
            ("1 case 2 pack", ("1 pack",)), ("1 case 1 pack", ("1 pack", "1 cup")),
            ("2 pack", ("1 pack", "1 cup", "1 case"))])

    def test_extra_that_is_not_served(self):
        self.check(lambda stock, asks: Plan([(Opening("case", lot("1 cup 1 pack")), 3)]), "1 cup", [
            ("1 case 1 cup 1 pack", ("1 cup",))])

    def test_a_keeper_that_opens_something_for_the_extra(self):
        self.check(self.by("pack = 2 cup", "-"), "1 cup", [
            ("1 case 1 cup 1 pack", ("1 cup",)), ("1 case 2 cup", ("1 cup", "1 case 1 pack"))])
        self.check(self.by("case = 1 cup 1 pack", "-"), "1 pack", [
            ("1 case 2 pack", ("1 pack",)), ("1 cup 2 pack", ("1 pack", "1 case 1 pack"))])

    def test_an_idle_opening_fits_the_book(self):
        idle = Book.of("case = 1 cup 1 pack\npack = 1 cup\npack = 2 cup")
        found = Regret(idle, *lots("1 case 1 pack", "1 cup", "1 case", "2 pack"))
        self.assertEqual(texts(found.beat(self.by("pack = 1 cup", "-"), Lot())), ("1 cup", "2 pack"))

    def test_every_way_to_answer_fails(self):
        """Tries all Plans of small books at each call, so all keepers."""
        _, books = brute.books(23, 40, worth=6, kinds="abcde")
        tried = 0
        for book in books:
            found = regret(book)
            if found is not None:
                self.fail_all(book, found)
                tried += 1
        self.assertGreater(tried, 15)

    def fail_all(self, book, found):
        plans = [Plan()]
        for row in book.openings():
            plans = [plan + Plan(((row, many),)) for plan in plans for many in range(3)]
        waiting = [()]
        while waiting:
            script = waiting.pop()
            calls = []
            no_plan = Plan(((Opening("none", lot("1 no")), 1),))

            def keeper(stock, asks):
                calls.append((stock, asks))
                return script[len(asks) - 1] if len(asks) <= len(script) else no_plan

            asks = found.beat(keeper, Lot())
            self.assertEqual(len(calls), len(asks))
            if len(calls) > len(script):
                stock, row = calls[-1]
                for plan in plans:
                    if all(plan.gone()[kind] <= (stock + plan.come())[kind] for kind in plan.gone().kinds()):
                        if row[-1].within(plan.after(stock)):
                            self.assertLess(len(row), 2, book.text())
                            waiting.append(script + (plan,))

    def test_the_hand_is_beaten(self):
        chance, books = brute.books(24, 200)
        for book in books:
            found = regret(book)
            if found is not None:
                for extra in (Lot(), brute.lot_of(chance, book, 6)):
                    noted = Keeper(Hand(book))
                    asks = found.beat(noted, extra)
                    self.assertEqual([len(row) for _, row in noted.told], list(range(1, len(asks) + 1)))
                    if len(extra) > 0:
                        self.assertEqual(asks[0], extra)
                    self.assertGreaterEqual(len(asks), 2)


class HandTest(unittest.TestCase):
    def test_the_last_ask_is_served(self):
        hand = Hand(CASE)
        stock, asks = lot("1 case 1 pack"), tuple(lots("9 hat", "3 cup"))
        plan = hand(stock, asks)
        self.assertTrue(plan.fits(CASE))
        self.assertTrue(lot("3 cup").within(plan.after(stock)))
        self.assertEqual((hand(stock, list(asks)), hand(asks=asks, stock=stock)), (plan, plan))
        self.assertEqual((stock, texts(asks)), (lot("1 case 1 pack"), ("9 hat", "3 cup")))
        self.assertEqual(Hand(book=CASE)(stock, asks), plan)

    def test_an_empty_plan_if_there_is_none(self):
        hand = Hand(CASE)
        for ask in lots("1 hat", "6 cup", "2 case"):
            self.assertEqual(hand(lot("1 case 1 pack"), (lot("1 cup"), ask)), Plan())
        self.assertEqual(hand(lot("1 cup"), (lot("1 cup"),)), Plan())

    def test_small_books(self):
        chance, books = brute.books(25, 300)
        for book in books:
            stock = brute.lot_of(chance, book, 10)
            ask = brute.ask_of(chance, book, stock)
            plan = Hand(book)(stock, (ask,))
            self.assertTrue(plan.fits(book))
            if brute.gives(brute.rows_of(book), stock.pairs(), ask.pairs()):
                self.assertTrue(ask.within(plan.after(stock)))
            else:
                self.assertEqual(plan, Plan())

    def test_great_numbers(self):
        book, stock = Book.of(f"a = {GREAT} b\nb = {GREAT} c"), Lot((("a", GREAT),))
        ask = Lot((("c", GREAT ** 3),))
        self.assertEqual(Hand(book)(stock, (ask,)).after(stock), ask)


class AskedOnlyTest(unittest.TestCase):
    def check(self, text, kinds, expected):
        book = Book.of(text)
        self.assertEqual(asked_only(book, kinds).text(), expected)
        self.assertEqual(asked_only(kinds=tuple(kinds), book=book).text(), expected)
        self.assertEqual(book.text(), text)

    def test_books(self):
        boxes = "box = 1 case 1 hat\ncase = 1 cup 1 pack\npack = 2 cup"
        self.check(boxes, ["box", "cup", "pack"], "box = 1 cup 1 pack\npack = 2 cup")
        self.check("case = 1 cup 1 pack\npack = 2 cup", ["case", "cup"], "case = 3 cup")
        self.check(boxes, ["pack", "cup", "hat", "case", "box"], boxes)
        self.check(boxes, [], "-")
        self.check(boxes, ["box"], "-")
        self.check(boxes, ["box", "none", "cup", "cup"], "box = 3 cup")
        self.check(boxes, ["box", "hat"], "box = 1 hat")
        self.check(boxes, ["cup", "hat"], "-")
        self.check("-", ["cup"], "-")

    def test_numbers_are_multiplied_through(self):
        self.check("a = 3 b 1 d\nb = 5 c 1 d\nc = 7 d", ["a", "d"], "a = 109 d")
        self.check("a = 3 b 1 d\nb = 5 c 1 d\nc = 7 d", ["a", "b", "d"], "a = 3 b 1 d\nb = 36 d")
        self.check(f"a = {GREAT} b\nb = {GREAT} c\nc = {GREAT} d", ["a", "d"], f"a = {GREAT ** 3} d")

    def test_openings_that_become_the_same(self):
        self.check("a = 1 b\na = 1 c\nb = 1 x\nc = 1 x", ["a", "x"], "a = 1 x")

    def test_idle_openings_do_not_count(self):
        self.check("four = 3 one\nfour = 2 two\ntwo = 2 one", ["four", "one"], "four = 4 one")
        self.check("b = 1 c\nb = 2 c\nx = 1 b", ["c", "x"], "x = 2 c")

    def test_forked(self):
        book = Book.of("d = 1 p\nd = 1 q\nm = 1 p\nm = 2 q\nz = 1 d 1 m")
        for kinds, kind in (([], "d"), (["z", "p", "q"], "d"), (["d"], "m"), (["m"], "d"), (("d", "p"), "m")):
            given = list(kinds)
            with self.assertRaises(Forked) as caught:
                asked_only(book, given)
            self.assertEqual((caught.exception.kind, given), (kind, list(kinds)))
        self.assertEqual(asked_only(book, ["d", "m"]).text(), "-")
        self.assertEqual(asked_only(book, ["d", "m", "p"]).text(), "d = 1 p\nm = 1 p")

    def test_the_same_is_given_of_the_kinds_of_the_list(self):
        chance, books = brute.books(26, 400, kinds="abcde")
        tried = refused = 0
        for book in books:
            kinds = [kind for kind in "abcde" if chance.random() < 0.6]
            forks = [kind for kind in form(book).forked_kinds() if kind not in kinds]
            if forks:
                with self.assertRaises(Forked) as caught:
                    asked_only(book, kinds)
                self.assertEqual(caught.exception.kind, forks[0])
                refused += 1
            elif kinds:
                tried += 1
                self.compare(chance, book, asked_only(book, kinds), kinds)
        self.assertGreater(min(tried, refused), 40)

    def compare(self, chance, book, few, kinds):
        self.assertLessEqual(set(few.kinds()), set(kinds))
        stock = brute.lot_of(chance, book, 10, kinds)
        told = [
            {bag for bag in brute.given(brute.rows_of(each), stock.pairs()) if set(dict(bag)) <= set(kinds)}
            for each in (book, few)]
        self.assertEqual(*told)
