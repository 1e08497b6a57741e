import random
import unittest
from fractions import Fraction

from fairmasks.bets import ring_habit
from fairmasks.errors import NoList, NoNumber, NoPattern
from fairmasks.habits import Habit, box_shares, habit_of, is_fair, patterns
from fairmasks.lists import ring
from fairmasks.papers import asker_for
from fairmasks.trust import behind, is_enough, trusts
from makers import (SIZES, all_contents, all_patterns, at, boxes_of, random_fair, random_habit, random_shares,
                    whole)
from samples import deep_dict, deep_list, deep_tuple, small_habit, strangers
from test_lists import CHAIN, THREE, all_rings, cycle, full, parts, random_list

HALF = (1, 2)


def lots(columns):
    return all_patterns(columns)


def is_enough_by_words(columns, listed, lot):
    """The sixth fact: the patterns less the lot, but those equal to ALL less the lot, hold no ring."""
    left = set(range(columns)) - set(lot)
    bare = {tuple(sorted(set(pattern) - set(lot))) for pattern in listed} - {tuple(sorted(left))}
    return not all_rings(columns, sorted(bare))


def behind_by_words(habit, lot):
    """The dict from the worths of a lot to a dict from (content, pattern) of the others to shares."""
    left = [column for column in range(len(habit.sizes)) if column not in lot]
    found = {}
    for content, row in zip(all_contents(habit.sizes), habit.rows):
        told = found.setdefault(at(lot, content), {})
        for pattern, part in row:
            bare = tuple(k for k, column in enumerate(left) if column in pattern)
            key = (at(left, content), bare)
            told[key] = told.get(key, 0) + Fraction(*part)
    return found


class Enough(unittest.TestCase):
    def test_e06(self):
        self.assertEqual((trusts(3, THREE), is_enough(3, THREE, (0,))), ([(0,), (1,), (2,)], True))

    def test_the_empty_lot_and_all(self):
        for columns in range(1, 6):
            listed = cycle(columns) if columns > 2 else full(columns, [()])
            self.assertIs(is_enough(columns, listed, ()), columns < 3)
            self.assertIs(is_enough(columns, listed, tuple(range(columns))), True)
        self.assertIs(is_enough(3, CHAIN, ()), True)

    def test_a_list_without_rings_asks_for_nobody(self):
        self.assertEqual(trusts(3, CHAIN), [()])
        self.assertEqual(trusts(1, ((0,),)), [()])
        self.assertEqual(trusts(1, ((), (0,))), [()])
        self.assertEqual(trusts(5, ((0, 1, 2, 3, 4),)), [()])
        self.assertEqual(trusts(2, ((), (0,), (0, 1), (1,))), [()])

    def test_rings_of_four_and_five(self):
        self.assertEqual(trusts(4, cycle(4)), [(0,), (1,), (2,), (3,)])
        self.assertEqual(trusts(5, cycle(5)), [(0,), (1,), (2,), (3,), (4,)])

    def test_two_rings_that_share_no_column_of_a_lot(self):
        # All pairs of four columns: one column less leaves the ring of the other three.
        pairs = [pattern for pattern in all_patterns(4) if len(pattern) == 2]
        self.assertEqual(trusts(4, full(4, pairs)), [(0, 1), (0, 2), (0, 3), (1, 2), (1, 3), (2, 3)])

    def test_a_lot_may_make_a_ring_none(self):
        # Less column 3 the pattern (0, 1, 2, 3) of five columns is (0, 1, 2): it is not all that is left.
        listed = full(5, [(0, 1, 3), (1, 2, 3), (0, 2, 3)])
        self.assertIs(is_enough(5, listed, (3,)), False)
        self.assertIs(is_enough(5, listed, (4,)), False)
        self.assertIs(is_enough(5, listed, (0, 4)), True)

    def test_the_sixth_fact_by_chance(self):
        chance = random.Random(1)
        seen = {True: 0, False: 0}
        for columns in [1, 2, 3, 3, 3, 4, 4, 5]:
            for _ in range(20 if columns < 5 else 5):
                listed = random_list(columns, chance, {4: 6, 5: 5}.get(columns, 11))
                told = {}
                for lot in lots(columns):
                    told[lot] = is_enough_by_words(columns, listed, lot)
                    self.assertIs(is_enough(columns, listed, lot), told[lot], (listed, lot))
                    seen[told[lot]] += 1
                least = [lot for lot in told if told[lot]
                         and not any(told[other] and set(other) < set(lot) for other in told)]
                self.assertEqual(trusts(columns, listed), sorted(least))
        self.assertGreater(min(seen.values()), 20)

    def test_the_greatest_lists(self):
        chance = random.Random(2)
        for columns in (4, 5):
            for _ in range(3):
                listed = full(columns, chance.sample([p for p in all_patterns(columns) if len(p) < columns], 11))
                self.assertEqual(len(listed), 12)
                found = trusts(columns, listed)
                self.assertEqual(found, sorted(found))
                self.assertTrue(all(is_enough(columns, listed, lot) for lot in found))

    def test_what_enough_means(self):
        # Each fair habit whose patterns are in the list can be had if what is behind the lot has askers.
        chance = random.Random(3)
        for _ in range(60):
            columns = chance.choice([3, 3, 4])
            sizes = (2,) * columns
            listed = random_list(columns, chance, 6)
            lot = chance.choice([lot for lot in lots(columns) if 0 < len(lot) < columns])
            if is_enough(columns, listed, lot):
                habit = habit_of(sizes, random_shares(sizes, parts(columns, listed), chance))
                self.assertTrue(all(asker_for(told) is not None for told in behind(habit, lot).values()))

    def test_what_not_enough_means(self):
        # A ring that is left behind the lot gives a fair habit that cannot be had.
        seen = 0
        for columns in (4, 5):
            sizes = (2,) * columns
            for listed in [cycle(columns), full(columns, [p for p in all_patterns(columns) if len(p) == 2]),
                           full(columns, [(0, 1, 3), (1, 2, 3), (0, 2, 3), (1, 2)])]:
                for lot in [(0,), (1,), (3,), (columns - 1,)]:
                    if is_enough(columns, listed, lot):
                        continue
                    habit = self.ringed_habit(sizes, listed, lot)
                    self.assertIs(is_fair(habit), True)
                    self.assertLessEqual(set(patterns(habit)), set(listed))
                    self.assertTrue(any(asker_for(told) is None for told in behind(habit, lot).values()))
                    seen += 1
        self.assertGreater(seen, 8)

    def ringed_habit(self, sizes, listed, lot):
        columns = len(sizes)
        left = [column for column in range(columns) if column not in lot]
        turned = {tuple(left.index(c) for c in pattern if c in left): pattern for pattern in parts(columns, listed)}
        turned.pop(tuple(range(len(left))), None)
        found = ring(len(left), full(len(left), list(turned)))
        shares = {}
        for (pattern, worths), part in box_shares(ring_habit((2,) * len(left), found)).items():
            for box in boxes_of(sizes, turned[pattern]):
                told = dict(zip(*box))
                if tuple(told[left[c]] for c in pattern) == worths:
                    shares[box] = part
        return habit_of(sizes, shares)


class Wrong(unittest.TestCase):
    def test_wrong_columns(self):
        for columns in [0, 6, -1, True, False, None, "3", (3,), [3], 10 ** 59, b"3", {}, small_habit(), int,
                        deep_list(40), deep_tuple(40), deep_dict(40)]:
            for listed in (THREE, None):
                with self.assertRaises(NoNumber):
                    trusts(columns, listed)
                for lot in ((), None):
                    with self.assertRaises(NoNumber):
                        is_enough(columns, listed, lot)

    def test_wrong_lists(self):
        for thing in strangers() + [(), ((0, 1),), ((0, 1, 2), (0, 1)), [(0, 1, 2)], ((0, 1, 2), (True,)), THREE[:1],
                                    ((0, 1, 2, 3),), list(THREE)]:
            with self.assertRaises(NoList):
                trusts(3, thing)
            for lot in ((), None, (0,)):
                with self.assertRaises(NoList):
                    is_enough(3, thing, lot)
        for call in (lambda: trusts(4, THREE), lambda: is_enough(4, THREE, ())):
            with self.assertRaises(NoList):
                call()

    def test_a_lot_that_is_no_pattern_is_not_enough(self):
        for lot in [thing for thing in strangers() if thing != ()] + [
                (1, 0), (0, 0), (3,), (-1,), [0], [], (True,), (0, True), "0", None, (0, 1, 2, 3), {0: 0}, 0]:
            for listed in (THREE, CHAIN):
                self.assertIs(is_enough(3, listed, lot), False, lot)


class Behind(unittest.TestCase):
    def assert_right(self, habit, lot):
        found = behind(habit, lot)
        told = behind_by_words(habit, lot)
        left = [column for column in range(len(habit.sizes)) if column not in lot]
        self.assertEqual(set(found), {worths for _, worths in boxes_of(habit.sizes, lot)})
        for worths, other in found.items():
            self.assertIs(type(other), Habit)
            self.assertEqual(other.sizes, tuple(habit.sizes[column] for column in left))
            rows = {(content, pattern): Fraction(*part)
                    for content, row in zip(all_contents(other.sizes), other.rows) for pattern, part in row}
            self.assertEqual(rows, told[worths])

    def test_ordinary_ones(self):
        habit = habit_of((2, 2), {((0,), (0,)): HALF})
        self.assertEqual(behind(habit, (0,)), {(0,): habit_of((2,), {((), ()): HALF}), (1,): whole((2,))})
        self.assertEqual(behind(habit, (1,)), {(0,): whole((2,)), (1,): whole((2,))})

    def test_patterns_that_are_alike_but_for_the_lot(self):
        habit = habit_of((2, 3), {((), ()): (1, 4), ((0,), (1,)): (1, 4), ((1,), (2,)): HALF})
        self.assertEqual(behind(habit, (0,)), {(0,): habit_of((3,), {((), ()): (1, 4)}),
                                               (1,): habit_of((3,), {((), ()): HALF})})

    def test_the_habit_need_not_be_fair(self):
        cell, other = (((0,), (1, 1)),), (((1,), (1, 1)),)
        habit = Habit((2, 2), (cell, cell, other, other))
        self.assertEqual(behind(habit, (0,)), {(0,): habit_of((2,), {((), ()): (1, 1)}), (1,): whole((2,))})

    def test_by_chance(self):
        chance = random.Random(4)
        for _ in range(150):
            sizes = chance.choice([sizes for sizes in SIZES if len(sizes) > 1] + [(2, 3, 2, 2)])
            habit = chance.choice([random_habit, random_fair])(sizes, chance)
            for lot in lots(len(sizes)):
                if 0 < len(lot) < len(sizes):
                    self.assert_right(habit, lot)

    def test_five_columns(self):
        chance = random.Random(5)
        for sizes in [(2, 2, 2, 2, 2), (4, 4, 4, 2, 2)]:
            habit = random_fair(sizes, chance)
            for lot in [(0,), (4,), (1, 3), (0, 1, 2, 3), (1, 2, 3, 4)]:
                self.assert_right(habit, lot)

    def test_wrong_lots(self):
        for lot in strangers() + [(), (0, 1), (1, 0), (2,), (-1,), (0, 1, 2), [0], (True,), "0", None, 0]:
            with self.assertRaises(NoPattern):
                behind(whole((2, 2)), lot)
        # Of one column there is none.
        for lot in [(), (0,), (1,)]:
            with self.assertRaises(NoPattern):
                behind(whole((2,)), lot)

    def test_dicts_are_new(self):
        habit = whole((2, 2))
        behind(habit, (0,)).clear()
        self.assertEqual(len(behind(habit, (0,))), 2)


if __name__ == "__main__":
    unittest.main()
