import unittest
from fractions import Fraction

from fairmasks.amounts import (below, common_bottom, fraction, greater, is_fraction, is_pair, is_share, is_whole, minus,
                               over, plus, times, total)
from samples import strangers


def pair(value):
    return (value.numerator, value.denominator)


class Amounts(unittest.TestCase):
    def test_an_integer_is_an_int_that_is_not_a_bool(self):
        for thing in (0, 1, -1, 10 ** 60, -(10 ** 60)):
            self.assertIs(is_whole(thing), True)
        for thing in (True, False, None, "1", b"1", (1,), [1]):
            self.assertIs(is_whole(thing), False)

    def test_a_pair_is_a_tuple_of_two(self):
        for thing in ((0, 0), (None, [])):
            self.assertIs(is_pair(thing), True)
        for thing in ((), (0,), (0, 0, 0), [0, 0], "ab", {0: 0, 1: 1}, None):
            self.assertIs(is_pair(thing), False)

    def test_fractions_have_lowest_terms(self):
        for thing in ((0, 1), (1, 1), (-1, 2), (7, 3), (-5, 1), (10 ** 60 - 1, 10 ** 60)):
            self.assertIs(is_fraction(thing), True, thing)
        for thing in ((0, 2), (2, 4), (1, 0), (0, 0), (1, -2), (-1, -2), (0, True), (True, 1), (1, 2, 3),
                      (1,), [1, 2], (1, "2"), ("1", 2), (None, 1), (1, None), ((1, 2), 1), "12", 1):
            self.assertIs(is_fraction(thing), False, thing)

    def test_shares_lie_from_0_to_1(self):
        for thing in ((0, 1), (1, 1), (1, 2), (2, 3), (1, 10 ** 59)):
            self.assertIs(is_share(thing), True, thing)
        for thing in ((-1, 2), (3, 2), (2, 1), (2, 4), (0, True), (0, 2), [0, 1]):
            self.assertIs(is_share(thing), False, thing)

    def test_anything_is_judged(self):
        for thing in strangers():
            for judge in (is_whole, is_pair, is_fraction, is_share):
                self.assertIn(judge(thing), (True, False))
            self.assertIs(is_fraction(thing), False)

    def test_reckoning(self):
        values = [Fraction(top, bottom) for top in range(-4, 5) for bottom in range(1, 5)]
        for one in values:
            for other in values:
                self.assertEqual(plus(pair(one), pair(other)), pair(one + other))
                self.assertEqual(minus(pair(one), pair(other)), pair(one - other))
                self.assertIs(below(pair(one), pair(other)), one < other)
                self.assertEqual(times(pair(one), pair(other)), pair(one * other))
                self.assertEqual(greater(pair(one), pair(other)), pair(max(one, other)))
                if other > 0:
                    self.assertEqual(over(pair(one), pair(other)), pair(one / other))

    def test_sums(self):
        values = [Fraction(top, bottom) for top in range(-4, 5) for bottom in range(1, 8)]
        for at in range(len(values)):
            self.assertEqual(total([pair(value) for value in values[:at]]), pair(sum(values[:at], Fraction(0))))
        self.assertEqual(total([]), (0, 1))
        self.assertEqual(common_bottom([]), 1)
        self.assertEqual(common_bottom([(1, 4), (5, 6), (0, 1)]), 12)

    def test_lowest_terms_are_made(self):
        self.assertEqual(fraction(4, 6), (2, 3))
        self.assertEqual(fraction(0, 7), (0, 1))
        self.assertEqual(fraction(-4, 2), (-2, 1))


if __name__ == "__main__":
    unittest.main()
