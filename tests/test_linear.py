import random
import unittest
from fractions import Fraction

from fairmasks.linear import solved
from fairmasks.questions import MODULUS


def equations_of(rows, rights):
    return [({k: cell for k, cell in enumerate(row) if cell}, right) for row, right in zip(rows, rights)]


def is_solved_by(rows, rights, found):
    for row, right in zip(rows, rights):
        if sum(cell * Fraction(*found.get(k, (0, 1))) for k, cell in enumerate(row)) != right:
            return False
    return True


def rank(rows):
    rows = [[Fraction(cell) for cell in row] for row in rows]
    many = 0
    for k in range(len(rows[0]) if rows else 0):
        pivot = next((row for row in rows[many:] if row[k]), None)
        if pivot is not None:
            rows.remove(pivot)
            rows.insert(many, pivot)
            many += 1
            for at in range(many, len(rows)):
                by = rows[at][k] / pivot[k]
                rows[at] = [cell - by * other for cell, other in zip(rows[at], pivot)]
    return many


def has_solution(rows, rights):
    return rank(rows) == rank([row + [right] for row, right in zip(rows, rights)])


def random_equations(chance, most=9, digits=2):
    """Equations of which some may hang on others, so that they may have none or many solutions."""
    many, unknowns = chance.randint(1, 6), chance.randint(1, 6)
    limit = chance.choice([1, most, 10 ** digits])
    rows = [[chance.choice([0, chance.randint(-limit, limit)]) for _ in range(unknowns)] for _ in range(many)]
    rights = [chance.randint(-limit, limit) for _ in rows]
    for _ in range(chance.randint(0, 3)):
        one, other, by = chance.randrange(many), chance.randrange(many), chance.randint(-2, 2)
        rows.append([cell + by * more for cell, more in zip(rows[one], rows[other])])
        rights.append(rights[one] + by * rights[other] + chance.choice([0, 0, 0, 1]))
    return rows, rights


class Solving(unittest.TestCase):
    def assert_solved(self, rows, rights, modulus=MODULUS):
        found = solved(equations_of(rows, rights), modulus)
        self.assertEqual(found is not None, has_solution(rows, rights))
        if found is not None:
            self.assertTrue(is_solved_by(rows, rights, found))
        return found

    def test_ordinary_ones(self):
        self.assertEqual(self.assert_solved([[2, 1], [1, 3]], [3, 4]), {0: (1, 1), 1: (1, 1)})
        self.assertEqual(self.assert_solved([[2, 0], [0, -3]], [1, 1]), {0: (1, 2), 1: (-1, 3)})
        self.assertIsNone(self.assert_solved([[1, 1], [2, 2]], [1, 3]))
        self.assert_solved([[1, 1], [2, 2]], [1, 2])

    def test_nothing(self):
        self.assertEqual(solved([], MODULUS), {})
        self.assertEqual(solved([({}, 0)], MODULUS), {})
        self.assertIsNone(solved([({}, 1)], MODULUS))

    def test_by_chance(self):
        chance = random.Random(1)
        seen = {True: 0, False: 0}
        for _ in range(600):
            found = self.assert_solved(*random_equations(chance))
            seen[found is not None] += 1
        self.assertGreater(min(seen.values()), 100)

    def test_long_numbers(self):
        chance = random.Random(2)
        for digits in (30, 60, 200):
            for _ in range(20):
                self.assert_solved(*random_equations(chance, digits=digits))

    def test_unlike_bottoms(self):
        rows = [[0] * k + [10 ** 60 + 7 * k + 1] + [0] * (9 - k) for k in range(10)]
        self.assert_solved(rows, [10 ** 59 + k for k in range(10)])

    def test_numbers_that_are_0_modulo_the_modulus(self):
        for rows, rights in [([[MODULUS]], [1]), ([[1]], [MODULUS]), ([[MODULUS, 1], [1, MODULUS]], [1, 1]),
                             ([[1, MODULUS], [1, 0]], [1, 0])]:
            found = solved(equations_of(rows, rights), MODULUS)
            if found is not None:
                self.assertTrue(is_solved_by(rows, rights, found))

    def test_a_bad_modulus_finds_nothing_wrong(self):
        # What is found is right with any modulus; with the one or the other it is found.
        chance = random.Random(3)
        for _ in range(200):
            rows, rights = random_equations(chance)
            told = []
            for modulus in range(2, 60):
                found = solved(equations_of(rows, rights), modulus)
                if found is not None:
                    self.assertTrue(is_solved_by(rows, rights, found))
                told.append(found is not None)
            if not has_solution(rows, rights):
                self.assertNotIn(True, told)
            elif max(map(abs, [1] + rights + [cell for row in rows for cell in row])) < 10:
                self.assertIn(True, told)

    def test_equations_are_not_changed(self):
        rows, rights = [[2, 1], [1, 3], [3, 4]], [3, 4, 7]
        equations = equations_of(rows, rights)
        solved(equations, MODULUS)
        self.assertEqual(equations, equations_of(rows, rights))


if __name__ == "__main__":
    unittest.main()
