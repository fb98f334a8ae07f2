import unittest

from chipyard import errors

NAMES = ("NoGround", "NoLoad", "NoYard", "NoCounts", "NoTree", "NoText")


class Errors(unittest.TestCase):
    def test_a_refusal_is_a_value_error(self):
        self.assertEqual(errors.YardError.__bases__, (ValueError,))

    def test_each_stands_under_the_refusal_and_none_under_another(self):
        for name in NAMES:
            self.assertEqual(getattr(errors, name).__bases__, (errors.YardError,), name)
