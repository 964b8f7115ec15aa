"""The examples of README.md answer as they are shown."""

import doctest
import pathlib
import unittest

README = pathlib.Path(__file__).resolve().parent.parent / "README.md"


class ReadmeTest(unittest.TestCase):
    def test_examples(self):
        failed, tried = doctest.testfile(str(README), module_relative=False, encoding="utf-8")
        self.assertGreater(tried, 0)
        self.assertEqual(failed, 0)
