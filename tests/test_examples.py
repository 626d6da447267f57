"""The examples of the README are right."""

import doctest
import pathlib
import unittest

README = pathlib.Path(__file__).resolve().parent.parent / "README.md"


class ExamplesTest(unittest.TestCase):
    def test_readme(self):
        told = doctest.testfile(str(README), module_relative=False)
        self.assertEqual(told.failed, 0)
        self.assertGreater(told.attempted, 8)


if __name__ == "__main__":
    unittest.main()
