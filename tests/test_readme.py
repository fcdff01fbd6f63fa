"""The examples of README.md, and those of the document."""

import doctest
import pathlib
import unittest

HERE = pathlib.Path(__file__).resolve().parent


class ExamplesTest(unittest.TestCase):

    def check(self, file):
        found = doctest.testfile(str(file), module_relative=False)
        self.assertEqual(found.failed, 0)
        self.assertGreater(found.attempted, 10)

    def test_readme(self):
        self.check(HERE.parent / "README.md")

    def test_document(self):
        self.check(HERE / "examples.txt")


if __name__ == "__main__":
    unittest.main()
