import random
import unittest
from fractions import Fraction

from fairmasks.simplex import Table


def values(pairs):
    return [Fraction(*pair) for pair in pairs]


class Greatest(unittest.TestCase):
    def assert_greatest(self, rows, limits, costs):
        """That the unknowns and the prices keep their limits and come to the same sum: then both are best."""
        table = Table(rows, limits, costs)
        most, worths, prices = Fraction(*table.greatest()), values(table.worths()), values(table.prices())
        self.assertGreaterEqual(min(worths + prices), 0)
        for row, limit in zip(rows, limits):
            self.assertLessEqual(sum(cell * worth for cell, worth in zip(row, worths)), limit)
        for at, cost in enumerate(costs):
            self.assertGreaterEqual(sum(row[at] * price for row, price in zip(rows, prices)), cost)
        self.assertEqual(sum(cost * worth for cost, worth in zip(costs, worths)), most)
        self.assertEqual(sum(limit * price for limit, price in zip(limits, prices)), most)
        return table.greatest()

    def test_ordinary_ones(self):
        self.assertEqual(self.assert_greatest([[1]], [3], [2]), (6, 1))
        self.assertEqual(self.assert_greatest([[2]], [3], [1]), (3, 2))
        self.assertEqual(self.assert_greatest([[1, 1], [1, 3]], [4, 6], [3, 5]), (14, 1))
        self.assertEqual(self.assert_greatest([[1, 1]], [4], [0, 0]), (0, 1))
        self.assertEqual(self.assert_greatest([[1, 1]], [4], [-1, -2]), (0, 1))

    def test_limits_of_0(self):
        self.assertEqual(self.assert_greatest([[1, 0], [-1, 1]], [0, 0], [1, 1]), (0, 1))
        self.assertEqual(self.assert_greatest([[1, 0], [-1, 2]], [1, 0], [0, 1]), (1, 2))

    def test_one_that_goes_round_in_a_circle_by_other_rules(self):
        # Beale's: the greatest costs first come back to where they began.
        rows = [[1, -32, -4, 36], [1, -24, -1, 6], [0, 0, 1, 0]]
        self.assert_greatest(rows, [0, 0, 1], [3, -80, 2, -24])

    def test_by_chance(self):
        chance = random.Random(1)
        for _ in range(300):
            columns, many = chance.randint(1, 6), chance.randint(1, 6)
            rows = [[chance.randint(-2, 4) for _ in range(columns)] for _ in range(many)] + [[1] * columns]
            limits = [chance.choice([0, 0, 1, 5]) for _ in range(many)] + [7]
            self.assert_greatest(rows, limits, [chance.randint(-3, 9) for _ in range(columns)])

    def test_what_is_passed_is_not_changed(self):
        rows, limits, costs = [[1, 1], [1, 3]], [4, 6], [3, 5]
        Table(rows, limits, costs)
        self.assertEqual((rows, limits, costs), ([[1, 1], [1, 3]], [4, 6], [3, 5]))


if __name__ == "__main__":
    unittest.main()
