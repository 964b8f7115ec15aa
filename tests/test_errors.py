"""[2], [15]: the error classes."""

import inspect
import unittest

from onceopened import errors

# For each class its built-in class and its values by name.
LISTED = {
    "Below": (ValueError, {"kind": "cup", "many": -3}),
    "Hollow": (ValueError, {"kind": "box"}),
    "Ringed": (ValueError, {"ring": ("box", "cup")}),
    "Short": (ValueError, {"kind": "tea", "lacking": 10 ** 13}),
    "Regretted": (ValueError, {"kind": "box"}),
    "Forked": (ValueError, {"kind": "box"}),
    "Uneven": (ValueError, {"kind": "box"}),
    "NoRegret": (ValueError, {}),
    "Taken": (ValueError, {"kind": "box"}),
    "Unpriced": (ValueError, {"kind": "box"}),
    "Doubted": (ValueError, {}),
    "Unexplained": (ValueError, {}),
    "BadText": (ValueError, {}),
    "BadLine": (ValueError, {"number": 4}),
    "NoDeed": (LookupError, {}),
    "Nothing": (ZeroDivisionError, {}),
}


class ErrorsTest(unittest.TestCase):
    def each(self):
        for name, (built_in, told) in LISTED.items():
            with self.subTest(error=name):
                yield getattr(errors, name), built_in, told

    def test_these_and_no_others_are_defined_in_the_file(self):
        defined = [name for name, value in vars(errors).items() if inspect.isclass(value)]
        self.assertEqual(sorted(defined), sorted(LISTED))
        for error, _, _ in self.each():
            self.assertEqual(error.__module__, "onceopened.errors")

    def test_each_one_is_directly_under_its_built_in_class_alone(self):
        for error, built_in, _ in self.each():
            self.assertEqual(error.__bases__, (built_in,))

    def test_values_by_position(self):
        for error, _, told in self.each():
            made = error(*told.values())
            for name, value in told.items():
                self.assertEqual(getattr(made, name), value)

    def test_values_by_name_in_any_order(self):
        for error, _, told in self.each():
            made = error(**dict(reversed(told.items())))
            for name, value in told.items():
                self.assertEqual(getattr(made, name), value)

    def test_values_are_those_of_the_brackets_in_their_order(self):
        for error, _, told in self.each():
            if told:
                names = list(inspect.signature(error).parameters)
                self.assertEqual(names, list(told))

    def test_a_value_is_needed_where_one_is_listed(self):
        for error, _, told in self.each():
            if told:
                with self.assertRaises(TypeError):
                    error()

    def test_raised_and_caught_by_its_own_name_and_no_other(self):
        for error, built_in, told in self.each():
            others = tuple(getattr(errors, name) for name in LISTED if name != error.__name__)
            try:
                raise error(**told)
            except others:
                self.fail("caught by another name")
            except error as caught:
                self.assertIsInstance(caught, built_in)
                for name, value in told.items():
                    self.assertEqual(getattr(caught, name), value)

    def test_caught_by_its_built_in_class(self):
        for error, built_in, told in self.each():
            with self.assertRaises(built_in):
                raise error(*told.values())
