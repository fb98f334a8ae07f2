import doctest
import unittest
from pathlib import Path


class Readme(unittest.TestCase):
    def test_the_examples_are_true(self):
        path = Path(__file__).resolve().parent.parent / "README.md"
        result = doctest.testfile(str(path), module_relative=False)
        self.assertGreater(result.attempted, 0)
        self.assertEqual(result.failed, 0)
