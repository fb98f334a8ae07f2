import copy
import unittest

from chipyard.matrices import common_divisor, determinant, invariants, numerators

ROWS = [[2, -1, 0], [-1, 3, -2], [5, 7, 4]]


class Matrices(unittest.TestCase):
    def test_determinants(self):
        self.assertEqual(determinant([]), 1)
        self.assertEqual(determinant([[-7]]), -7)
        self.assertEqual(determinant([[1, 2], [3, 4]]), -2)
        self.assertEqual(determinant([[0, 1], [1, 0]]), -1)
        self.assertEqual(determinant(ROWS), 58)
        self.assertEqual(determinant([[4, -1, -1, -1], [-1, 4, -1, -1], [-1, -1, 4, -1], [-1, -1, -1, 4]]), 125)

    def test_numerators_over_the_determinant_solve(self):
        column = [3, -8, 11]
        parts = numerators(ROWS, column)
        for row, number in zip(ROWS, column):
            self.assertEqual(sum(one * part for one, part in zip(row, parts)), number * determinant(ROWS))
        self.assertEqual(numerators([], []), [])

    def test_common_divisors(self):
        self.assertEqual(common_divisor([]), 0)
        self.assertEqual(common_divisor([0, 0]), 0)
        self.assertEqual(common_divisor([-12]), 12)
        self.assertEqual(common_divisor([0, 12, -18, 30]), 6)
        self.assertEqual(common_divisor([7, 0, 5]), 1)

    def test_invariants(self):
        self.assertEqual(invariants([]), [])
        self.assertEqual(invariants([[-7]]), [7])
        self.assertEqual(invariants([[2, 0], [0, 3]]), [1, 6])
        self.assertEqual(invariants([[4, 0, 0], [0, 6, 0], [0, 0, 10]]), [2, 2, 60])
        self.assertEqual(invariants([[4, -1, -1, -1], [-1, 4, -1, -1], [-1, -1, 4, -1], [-1, -1, -1, 4]]), [1, 5, 5, 5])
        self.assertEqual(invariants(ROWS), [1, 1, 58])

    def test_what_is_handed_in_stays_as_it_was(self):
        rows = copy.deepcopy(ROWS)
        column = [1, 2, 3]
        determinant(rows)
        numerators(rows, column)
        invariants(rows)
        self.assertEqual((rows, column), (ROWS, [1, 2, 3]))
