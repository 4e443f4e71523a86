"""The examples of README.md, and those of the document."""

import doctest
import unittest
from pathlib import Path

TESTS = Path(__file__).resolve().parent


class Examples(unittest.TestCase):
    def check(self, path):
        result = doctest.testfile(str(path), module_relative=False, encoding="utf-8")
        self.assertEqual(result.failed, 0)
        self.assertGreater(result.attempted, 5)

    def test_readme(self):
        self.check(TESTS.parent / "README.md")

    def test_document(self):
        self.check(TESTS / "examples.txt")


if __name__ == "__main__":
    unittest.main()
