"""The examples of README.md."""

import doctest
import pathlib
import unittest


class Readme(unittest.TestCase):
    def test_examples(self):
        path = pathlib.Path(__file__).parent.parent / "README.md"
        told = doctest.testfile(str(path), module_relative=False)
        self.assertEqual(told.failed, 0)
        self.assertTrue(told.attempted > 5)


if __name__ == "__main__":
    unittest.main()
