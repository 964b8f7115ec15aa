"""[2], [15]: names, files, methods and arguments."""

import inspect
import unittest

from onceopened import (
    books, desk, forms, lattices, lots, numbers, plans, prices, regrets, remains, retold, shelves, stocks)
from onceopened.books import Book, Opening
from onceopened.lots import Lot
from onceopened.plans import Plan
from onceopened.regrets import Hand, Regret, regret
from onceopened.shelves import Shelf

METHODS = {
    Lot: (
        "__init__ __getitem__ __setitem__ __contains__ __len__ __abs__ __eq__ kinds pairs within __add__ __sub__ "
        "__mul__ __rmul__ __and__ __or__ __floordiv__ __mod__ __iadd__ __isub__ text of"
    ),
    Opening: "__init__ contents __eq__ __lt__ __le__ __gt__ __ge__ text",
    Book: (
        "__init__ __contains__ __len__ __eq__ __getitem__ openings holders kinds inside __or__ __sub__ worth "
        "is_plain text of"
    ),
    Plan: "__init__ __getitem__ openings __len__ __abs__ __eq__ __add__ __mul__ __rmul__ __sub__ after fits",
    Regret: "__init__ stock ask first second plans rows beat",
    Hand: "__init__ __call__",
    Shelf: "__init__ serve __isub__ __iadd__ __contains__ __floordiv__ stock served arrived opened undo",
}

# For each file its functions with the names of their arguments.
FUNCTIONS = {
    plans: "gives(book, stock, ask) plan_for(book, stock, ask)",
    forms: "idle(book) form(book) covers(book, other) alike(one, other) parted(one, other)",
    remains: "becomes(book, stock) leftovers(book, stock, ask)",
    numbers: (
        "forked(book) numbers(book, lot) lot_of(book, counts) lack(book, stock, ask) meet(book, one, other) "
        "join(book, one, other) times(book, stock, ask)"
    ),
    regrets: "shared(book) regret(book) is_regret(book, stock, ask, first, second) asked_only(book, kinds)",
    shelves: "least(book, stock, ask) leftover(book, stock, ask)",
    lattices: "torn(book) skew(book) is_tree(book)",
    prices: "need(book, customers) price(lot, prices) cheapest(book, stock, ask, prices)",
    retold: "doubt(book) retold(book, before, served, after)",
    stocks: "unsafe(book, stock) holds(book, stock, promises)",
    desk: "answers(text)",
}


class InterfaceTest(unittest.TestCase):
    def test_classes_are_defined_in_their_files(self):
        for module, made in ((lots, Lot), (books, Opening), (books, Book), (plans, Plan), (regrets, Regret),
                             (regrets, Hand), (shelves, Shelf)):
            self.assertEqual(made.__module__, module.__name__)

    def test_methods_are_defined_in_the_class_itself(self):
        for made, names in METHODS.items():
            for name in names.split():
                with self.subTest(made=made.__name__, name=name):
                    self.assertIn(name, vars(made))

    def test_functions_are_defined_in_their_files_with_the_arguments_shown(self):
        for module, text in FUNCTIONS.items():
            for shown in text.replace(") ", ")\n").split("\n"):
                name = shown.partition("(")[0]
                with self.subTest(function=shown):
                    function = getattr(module, name)
                    self.assertEqual(function.__module__, module.__name__)
                    self.assertEqual(name + str(inspect.signature(function)), shown)

    def test_class_methods_and_properties(self):
        self.assertIsInstance(vars(Lot)["of"], classmethod)
        self.assertIsInstance(vars(Book)["of"], classmethod)
        for made, name in ((Opening, "contents"), (Regret, "stock"), (Regret, "ask"), (Regret, "first"),
                           (Regret, "second"), (Shelf, "stock")):
            self.assertIsInstance(vars(made)[name], property)

    def test_arguments_have_the_names_shown(self):
        found, shelf = regret(Book.of("a = 1 k\nb = 1 k")), Shelf(Book(), Lot())
        shown = (
            (Regret, ["book", "stock", "ask", "first", "second"]), (found.plans, []), (found.rows, ["ahead", "kind"]),
            (found.beat, ["keeper", "extra"]), (Hand, ["book"]), (Hand(Book()), ["stock", "asks"]),
            (Shelf, ["book", "stock"]), (shelf.serve, ["ask"]), (shelf.served, []), (shelf.arrived, []),
            (shelf.opened, []), (shelf.undo, []),
            (Lot, ["pairs"]), (Lot.of, ["text"]), (Lot().kinds, []), (Lot().pairs, []), (Lot().text, []),
            (Lot().within, ["other"]), (Opening, ["kind", "contents"]), (Book, ["openings"]), (Book.of, ["text"]),
            (Book().openings, []), (Book().holders, ["kind"]), (Book().kinds, []), (Book().inside, ["kind"]),
            (Book().worth, ["lot"]), (Book().is_plain, []), (Book().text, []), (Plan, ["counts"]),
            (Plan().openings, []), (Plan().after, ["stock"]), (Plan().fits, ["book"]),
        )
        for call, names in shown:
            self.assertEqual(list(inspect.signature(call).parameters), names)

    def test_calls_by_names(self):
        lot = Lot(pairs=[("cup", 2)])
        self.assertEqual(lot, Lot.of(text="2 cup"))
        self.assertTrue(lot.within(other=lot))
        box = Opening(contents=lot, kind="box")
        self.assertEqual(box, Opening("box", lot))
        book = Book(openings=[box])
        self.assertEqual(book, Book.of(text="box = 2 cup"))
        self.assertEqual(book.holders(kind="cup"), [box])
        self.assertEqual(book.inside(kind="box"), ["cup"])
        self.assertEqual(book.worth(lot=lot), 2)
        plan = Plan(counts=[[box, 1]])
        self.assertEqual((plan.after(stock=Lot.of("1 box")), plan.fits(book=book)), (lot, True))
