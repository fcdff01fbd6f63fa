"""The examples of README.md, and those of the document."""

import doctest
import pathlib
import unittest

HERE = pathlib.Path(__file__).resolve().parent


def run(text, name):
    """Runs the examples of a text, which begin anew; returns how many there are, and how many of them failed."""
    runner = doctest.DocTestRunner()
    found = runner.run(doctest.DocTestParser().get_doctest(text, {}, name, name, 0))
    return found.attempted, found.failed


class ExamplesTest(unittest.TestCase):

    def test_readme(self):
        many, failed = run((HERE.parent / "README.md").read_text(encoding="utf-8"), "README.md")
        self.assertEqual(failed, 0)
        self.assertGreater(many, 30)

    def test_document(self):
        parts = (HERE / "examples.txt").read_text(encoding="utf-8").split("\n----\n")
        self.assertEqual(len(parts), 15)
        for at, part in enumerate(parts):
            many, failed = run(part, f"examples.txt, part {at}")
            self.assertEqual(failed, 0)
            self.assertGreater(many, 1)


if __name__ == "__main__":
    unittest.main()
