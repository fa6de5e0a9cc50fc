"""Exact numbers of any size, below the calls: linear equations and fractions.

The limits of the calls keep optimal values within 64 bits, but not regrets; nothing here may need that.
"""

import unittest
from fractions import Fraction

from shapedrewards.fraction import added, greater, greatest_common_divisor, less, lowest_terms, same, written
from shapedrewards.rows import every_row
from shapedrewards.worth import solution
from tests.helper import Numbers

BIG = 10 ** 30


class Fractions(unittest.TestCase):
    def test_greatest_common_divisor(self):
        self.assertEqual(greatest_common_divisor(12, 18), 6)
        self.assertEqual(greatest_common_divisor(18, 12), 6)
        self.assertEqual(greatest_common_divisor(0, 5), 5)
        self.assertEqual(greatest_common_divisor(7 * BIG, 3 * BIG), BIG)

    def test_lowest_terms(self):
        self.assertEqual(lowest_terms((6, 4)), (3, 2))
        self.assertEqual(lowest_terms((-6, 4)), (-3, 2))
        self.assertEqual(lowest_terms((-4, 4)), (-1, 1))
        self.assertEqual(lowest_terms((0, 17)), (0, 1))
        self.assertEqual(lowest_terms((5, 1)), (5, 1))

    def test_beyond_64_bits(self):
        self.assertEqual(lowest_terms((6 * BIG, 4 * BIG)), (3, 2))
        self.assertEqual(lowest_terms((-2 * BIG - 2, 2 * BIG)), (-BIG - 1, BIG))
        self.assertEqual(lowest_terms((0, BIG)), (0, 1))

    def test_greater(self):
        self.assertEqual(greater((1, 2), (1, 3)), (1, 2))
        self.assertEqual(greater((-1, 2), (-1, 3)), (-1, 3))
        self.assertEqual(greater((BIG, BIG + 1), (BIG + 1, BIG + 2)), (BIG + 1, BIG + 2))
        self.assertEqual(lowest_terms(greater((2, 4), (1, 2))), (1, 2))

    def test_added_and_less(self):
        self.assertEqual(lowest_terms(added((1, 2), (1, 3))), (5, 6))
        self.assertEqual(lowest_terms(added((-1, 2), (2, 4))), (0, 1))
        self.assertEqual(lowest_terms(less((1, 2), (1, 3))), (1, 6))
        self.assertEqual(lowest_terms(less((1, 3), (1, 2))), (-1, 6))
        self.assertEqual(lowest_terms(less((-1, 3), (-1, 3))), (0, 1))
        self.assertEqual(lowest_terms(less((1, BIG), (1, BIG + 1))), (1, BIG * (BIG + 1)))

    def test_same(self):
        self.assertTrue(same((1, 2), (3, 6)))
        self.assertTrue(same((0, 5), (0, 7)))
        self.assertTrue(same((-2, 4), (-1, 2)))
        self.assertFalse(same((-1, 2), (1, 2)))
        self.assertFalse(same((BIG, BIG + 1), (BIG + 1, BIG + 2)))

    def test_written(self):
        self.assertEqual(written([(4, 2), (-3, 9), (0, 5), (3 * BIG, 6)]), [2, 1, -1, 3, 0, 1, BIG // 2, 1])
        self.assertEqual(written([]), [])


class Rows(unittest.TestCase):
    def test_every_row_in_lexicographic_order(self):
        self.assertEqual(every_row(2, 3), [[0, 0], [0, 1], [0, 2], [1, 0], [1, 1], [1, 2], [2, 0], [2, 1], [2, 2]])
        self.assertEqual(every_row(3, 1), [[0, 0, 0]])
        for length, beyond in ((4, 3), (6, 2), (3, 3)):
            rows = every_row(length, beyond)
            self.assertEqual(rows, sorted(rows))
            self.assertEqual(len({tuple(row) for row in rows}), beyond ** length)


class Solution(unittest.TestCase):
    def assert_solves(self, rows):
        handed_in = [list(row) for row in rows]
        found = [Fraction(*pair) for pair in solution(rows)]
        self.assertEqual(rows, handed_in)
        for row in rows:
            self.assertEqual(sum(factor * value for factor, value in zip(row, found)), row[-1])

    def rows(self, numbers, size, scale):
        rows = []
        for place in range(size):
            row = [-numbers.draw(0, 9) * scale for _ in range(size)]
            row[place] = (1 + sum(-factor for factor in row)) + numbers.draw(0, 9)
            rows.append(row + [numbers.draw(-1000, 1000) * scale])
        return rows

    def test_many_equations(self):
        numbers = Numbers(31)
        for size in (1, 2, 3, 4, 5):
            for _ in range(30):
                self.assert_solves(self.rows(numbers, size, 1))

    def test_numerators_and_denominators_beyond_64_bits(self):
        numbers = Numbers(32)
        for size in (2, 3, 4):
            rows = self.rows(numbers, size, BIG)
            self.assert_solves(rows)
            numerator, denominator = lowest_terms(solution(rows)[0])
            self.assertGreater(abs(numerator), 2 ** 64)
            self.assertGreater(denominator, 2 ** 64)


if __name__ == "__main__":
    unittest.main()
