"""[2], [15]: names, files, methods and arguments."""

import inspect
import unittest

from onceopened import books, lots
from onceopened.books import Book, Opening
from onceopened.lots import Lot

METHODS = {
    Lot: (
        "__init__ __getitem__ __setitem__ __contains__ __len__ __abs__ __eq__ kinds pairs within __add__ __sub__ "
        "__mul__ __rmul__ __and__ __or__ __floordiv__ __mod__ __iadd__ __isub__ text of"
    ),
    Opening: "__init__ contents __eq__ __lt__ __le__ __gt__ __ge__ text",
    Book: (
        "__init__ __contains__ __len__ __eq__ __getitem__ openings holders kinds inside __or__ __sub__ worth "
        "is_plain text of"
    ),
}


class InterfaceTest(unittest.TestCase):
    def test_classes_are_defined_in_their_files(self):
        for module, made in ((lots, Lot), (books, Opening), (books, Book)):
            self.assertEqual(made.__module__, module.__name__)

    def test_methods_are_defined_in_the_class_itself(self):
        for made, names in METHODS.items():
            for name in names.split():
                with self.subTest(made=made.__name__, name=name):
                    self.assertIn(name, vars(made))

    def test_of_is_a_class_method_and_contents_a_property(self):
        self.assertIsInstance(vars(Lot)["of"], classmethod)
        self.assertIsInstance(vars(Book)["of"], classmethod)
        self.assertIsInstance(vars(Opening)["contents"], property)

    def test_arguments_have_the_names_shown(self):
        shown = (
            (Lot, ["pairs"]), (Lot.of, ["text"]), (Lot().kinds, []), (Lot().pairs, []), (Lot().text, []),
            (Lot().within, ["other"]), (Opening, ["kind", "contents"]), (Book, ["openings"]), (Book.of, ["text"]),
            (Book().openings, []), (Book().holders, ["kind"]), (Book().kinds, []), (Book().inside, ["kind"]),
            (Book().worth, ["lot"]), (Book().is_plain, []), (Book().text, []),
        )
        for call, names in shown:
            self.assertEqual(list(inspect.signature(call).parameters), names)

    def test_calls_by_names(self):
        lot = Lot(pairs=[("cup", 2)])
        self.assertEqual(lot, Lot.of(text="2 cup"))
        self.assertTrue(lot.within(other=lot))
        box = Opening(contents=lot, kind="box")
        self.assertEqual(box, Opening("box", lot))
        book = Book(openings=[box])
        self.assertEqual(book, Book.of(text="box = 2 cup"))
        self.assertEqual(book.holders(kind="cup"), [box])
        self.assertEqual(book.inside(kind="box"), ["cup"])
        self.assertEqual(book.worth(lot=lot), 2)
