import random
import unittest
from fractions import Fraction
from itertools import combinations, product

from fairmasks.errors import BadHabit, BadSizes, NoContent, NoPattern, NoShares, NotFair, TooMuch
from fairmasks.habits import Habit, box_shares, habit_of, is_fair, patterns, share, unfair
from fairmasks.rows import box_at, contents, in_box
from makers import all_patterns, pair, random_habit, whole
from samples import deep_dict, deep_list, deep_tuple, small_habit, strangers

SIZES = [(2,), (4,), (2, 2), (3, 2), (2, 2, 2), (4, 2, 2), (2, 2, 2, 2, 2)]


def random_shares(sizes, chance):
    """Shares of boxes that come to at most 1 for each content."""
    parts = all_patterns(len(sizes))[:]
    parts.remove(tuple(range(len(sizes))))
    chosen = chance.sample(parts, chance.randint(0, min(3, len(parts))))
    shares = {}
    for pattern in chosen:
        for worths in product(*[range(sizes[c]) for c in pattern]):
            if chance.random() < 0.7:
                top = chance.randint(0, 4)
                shares[(pattern, worths)] = pair(Fraction(top, 4 * len(chosen)))
    return shares


def all_unfair(habit):
    """All triples by which a habit is not fair, told by the words of the document."""
    found = []
    for pattern in all_patterns(len(habit.sizes)):
        for one, other in combinations(contents(habit.sizes), 2):
            if box_at(habit.sizes, pattern, one) == box_at(habit.sizes, pattern, other):
                if share(habit, pattern, one) != share(habit, pattern, other):
                    found.append((pattern, one, other))
    return found


HALF = (1, 2)
ROW = (((), HALF), ((0, 1), HALF))


class Making(unittest.TestCase):
    def test_attributes(self):
        rows = (ROW, (((0,), (1, 1)),), (((0,), (1, 3)), ((1,), (2, 3))), (((), (1, 1)),))
        habit = Habit((2, 2), rows)
        self.assertEqual(habit.sizes, (2, 2))
        self.assertEqual(habit.rows, rows)
        self.assertIs(isinstance(habit.sizes, tuple), True)
        self.assertIs(isinstance(habit.rows, tuple), True)

    def test_edges_of_sizes(self):
        for sizes in [(2,), (4,), (4, 4, 4, 4), (4, 4, 4, 2, 2), (2, 2, 2, 2, 2)]:
            self.assertEqual(whole(sizes).sizes, sizes)

    def test_wrong_sizes(self):
        for sizes in strangers() + [(), (1,), (5,), (2, 2, 2, 2, 2, 2), (4, 4, 4, 4, 2), (True, 2), [2, 2]]:
            self.assert_bad("sizes", sizes, (ROW, ROW, ROW, ROW))
        self.assert_bad("sizes", [2, 2], None)

    def test_wrong_rows(self):
        for rows in [(), (ROW,), (ROW, ROW, ROW), (ROW,) * 5, [ROW, ROW, ROW, ROW], None, "abcd", b"abcd",
                     {0: ROW, 1: ROW, 2: ROW, 3: ROW}, 4, True, range(4), deep_tuple(40), deep_list(40),
                     deep_dict(40), whole((2, 2))]:
            self.assert_bad("rows", (2, 2), rows)

    def test_wrong_row(self):
        for row in strangers() + [
                (), [((), (1, 1))], (((), HALF),), (((), (1, 1)), ((0,), (1, 1))), (((), (3, 2)),),
                (((0,), HALF), ((), HALF)), (((), HALF), ((), HALF)), (((0,), HALF), ((0,), HALF)),
                (((), (0, 1)), ((0, 1), (1, 1))), (((), (-1, 2)), ((0,), (3, 2))), (((), (2, 2)),),
                (((), (2, 4)), ((0,), HALF)), (((), (1, True)),), (((), (True, 1)),), (((), 1),), (((), [1, 1]),),
                (((2,), (1, 1)),), (((1, 0), (1, 1)),), (([], (1, 1)),), ((None, (1, 1)),), (((True,), (1, 1)),),
                (((), (1, 1), ()),), (((),),), ([(), (1, 1)],), (((), None),), (((), (1, 0)),), (((), "11"),),
                (((), HALF), ((0,), (1, 3))), (((), HALF), ((0,), (1, 3)), ((1,), (1, 3))),
                ((deep_tuple(37), (1, 1)),), (((), deep_tuple(37)),), ((deep_list(37), deep_dict(37)),),
                ((), (1, 1)), "ab"]:
            for index in range(4):
                rows = (ROW,) * index + (row,) + (ROW,) * (3 - index)
                self.assert_bad(index, (2, 2), rows)

    def test_the_first_wrong_row_is_named(self):
        self.assert_bad(1, (2, 2), (ROW, None, ROW, ()))
        self.assert_bad(0, (2, 2), (None, None, None, None))

    def test_shares_of_many_digits(self):
        great = 10 ** 59
        row = (((), (1, great)), ((0,), (great - 1, great)))
        self.assertEqual(Habit((2,), (row, row)).rows, (row, row))
        self.assert_bad(0, (2,), ((((), (1, great)), ((0,), (great - 3, great))), row))

    def assert_bad(self, part, sizes, rows):
        with self.assertRaises(BadHabit) as caught:
            Habit(sizes, rows)
        self.assertEqual(caught.exception.part, part)
        self.assertIs(type(caught.exception.part), type(part))


class Equality(unittest.TestCase):
    def test_equal_if_sizes_and_rows_are(self):
        self.assertEqual(Habit((2,), ((((), (1, 1)),),) * 2), Habit((2,), ((((), (1, 1)),),) * 2))
        self.assertIs(whole((2, 2)) == whole((2, 2)), True)
        self.assertIs(whole((2, 2)) != whole((2, 2)), False)

    def test_unlike_rows(self):
        self.assertIs(small_habit() == Habit((2,), ((((), (1, 1)),),) * 2), False)
        self.assertIs(small_habit() != Habit((2,), ((((), (1, 1)),),) * 2), True)

    def test_unlike_sizes_with_equal_rows(self):
        rows = ((((), (1, 1)),),) * 4
        self.assertIs(Habit((2, 2), rows) == Habit((4,), rows), False)

    def test_equal_to_nothing_else(self):
        habit = small_habit()
        for thing in strangers() + [habit.rows, (habit.sizes, habit.rows), [habit.sizes, habit.rows]]:
            if not isinstance(thing, Habit):
                self.assertIs(habit == thing, False)
                self.assertIs(thing == habit, False)
                self.assertIs(habit != thing, True)

    def test_equal_to_nothing_of_a_class_with_the_same_attributes(self):
        class Other:
            sizes = (2,)
            rows = small_habit().rows
        self.assertIs(small_habit() == Other(), False)


class Sharing(unittest.TestCase):
    def setUp(self):
        self.habit = Habit((2, 2), (ROW, (((0,), (1, 1)),), (((0,), (1, 3)), ((1,), (2, 3))), (((), (1, 1)),)))

    def test_share(self):
        self.assertEqual(share(self.habit, (), (0, 0)), (1, 2))
        self.assertEqual(share(self.habit, (0, 1), (0, 0)), (1, 2))
        self.assertEqual(share(self.habit, (0,), (0, 1)), (1, 1))
        self.assertEqual(share(self.habit, (0,), (1, 0)), (1, 3))
        self.assertEqual(share(self.habit, (1,), (1, 0)), (2, 3))
        self.assertEqual(share(self.habit, (), (1, 1)), (1, 1))

    def test_share_of_what_is_never_shown(self):
        self.assertEqual(share(self.habit, (0,), (0, 0)), (0, 1))
        self.assertEqual(share(self.habit, (0, 1), (1, 1)), (0, 1))
        self.assertEqual(share(small_habit(), (), (1,)), (0, 1))

    def test_share_of_each_content_of_great_sizes(self):
        sizes = (4, 2, 3)
        parts = [Fraction(1, k + 2) for k in range(24)]
        rows = tuple((((), pair(part)), ((0, 1, 2), pair(1 - part))) for part in parts)
        habit = Habit(sizes, rows)
        for content, part in zip(contents(sizes), parts):
            self.assertEqual(share(habit, (), content), pair(part))
            self.assertEqual(share(habit, (0, 1, 2), content), pair(1 - part))

    def test_wrong_arguments(self):
        for thing in strangers() + [(1, 0), (2,), (True,), [0], "0"]:
            with self.assertRaises(NoPattern):
                share(self.habit, thing, (0, 0))
        for thing in strangers() + [(), (0,), (0, 2), (0, 0, 0), (0, True), [0, 0]]:
            with self.assertRaises(NoContent):
                share(self.habit, (), thing)
        with self.assertRaises(NoPattern):
            share(self.habit, None, None)

    def test_patterns(self):
        self.assertEqual(patterns(self.habit), ((), (0,), (0, 1), (1,)))
        self.assertEqual(patterns(whole((2, 2, 2))), ((0, 1, 2),))

    def test_patterns_hold_all_even_if_it_is_never_shown(self):
        self.assertEqual(patterns(Habit((2, 2), ((((1,), (1, 1)),),) * 4)), ((0, 1), (1,)))
        self.assertEqual(patterns(Habit((2,), ((((), (1, 1)),),) * 2)), ((), (0,)))


class Fairness(unittest.TestCase):
    def test_a_fair_one(self):
        habit = Habit((2, 2), ((((0,), (1, 1)),),) * 2 + ((((0, 1), (1, 1)),),) * 2)
        self.assertIsNone(unfair(habit))
        self.assertIs(is_fair(habit), True)

    def test_showing_all_alone_is_fair(self):
        for sizes in SIZES:
            self.assertIsNone(unfair(whole(sizes)))
            self.assertIs(is_fair(whole(sizes)), True)

    def test_an_unfair_one(self):
        # What the program of example e07 of the document shows.
        by_itself = (((1,), (1, 1)),)
        nothing = (((), (1, 1)),)
        cell = (((0,), (1, 1)),)
        habit = Habit((2, 2), (cell, cell, by_itself, by_itself))
        self.assertEqual(unfair(habit), ((1,), (0, 0), (1, 0)))
        self.assertIs(is_fair(habit), False)
        habit = Habit((2, 2), (cell, cell, nothing, nothing))
        self.assertEqual(unfair(habit), ((), (0, 0), (1, 0)))

    def test_the_box_that_is_unfair_is_not_the_first(self):
        # With the pattern (1, 2) the boxes of (0, 1) and (1, 0) are unfair, that of (0, 0) is not.
        parts = {content: (1, 2) for content in contents((2, 2, 2))}
        parts[(1, 0, 1)] = parts[(1, 1, 0)] = (1, 3)
        rows = tuple((((0, 1, 2), pair(1 - Fraction(*part))), ((1, 2), part)) for part in parts.values())
        self.assertEqual(unfair(Habit((2, 2, 2), rows)), ((1, 2), (0, 0, 1), (1, 0, 1)))

    def test_the_least_one_may_be_met_last(self):
        one, other = (((1,), (1, 1)),), (((0, 1), (1, 1)),)
        # The box of worth 1 is told apart by (1, 1), that of worth 0 only by (2, 0).
        habit = Habit((3, 2), (one, one, one, other, other, one))
        self.assertEqual(unfair(habit), ((1,), (0, 0), (2, 0)))

    def test_shares_that_are_unlike_by_little(self):
        rows = ((((), (1, 2)), ((0,), (1, 2))), (((), (1, 3)), ((0,), (2, 3))))
        self.assertEqual(unfair(Habit((2,), rows)), ((), (0,), (1,)))

    def test_the_least_of_all_triples(self):
        chance = random.Random(1)
        seen = {True: 0, False: 0}
        for _ in range(300):
            habit = random_habit(chance.choice(SIZES[:-1]), chance)
            found = all_unfair(habit)
            seen[found == []] += 1
            self.assertEqual(unfair(habit), min(found) if found else None)
            self.assertIs(is_fair(habit), found == [])
        self.assertGreater(min(seen.values()), 30)

    def test_anything_is_judged(self):
        for thing in strangers():
            if not isinstance(thing, Habit):
                self.assertIs(is_fair(thing), False)


class Boxes(unittest.TestCase):
    def test_box_shares(self):
        habit = Habit((2, 2), ((((0,), (1, 1)),),) * 2 + ((((0, 1), (1, 1)),),) * 2)
        self.assertEqual(box_shares(habit), {((0,), (0,)): (1, 1)})

    def test_all_is_left_out(self):
        self.assertEqual(box_shares(whole((2, 3))), {})

    def test_the_empty_pattern_stands_in_it(self):
        self.assertEqual(box_shares(Habit((2, 2), (ROW,) * 4)), {((), ()): (1, 2)})

    def test_of_one_that_is_not_fair(self):
        one, other = (((), (1, 1)),), (((0,), (1, 1)),)
        with self.assertRaises(NotFair):
            box_shares(Habit((2,), (one, other)))

    def test_dicts_are_new(self):
        habit = Habit((2, 2), (ROW,) * 4)
        box_shares(habit).clear()
        self.assertEqual(box_shares(habit), {((), ()): (1, 2)})

    def test_habit_of(self):
        self.assertEqual(habit_of((2, 2), {((0,), (0,)): (1, 1)}),
                         Habit((2, 2), ((((0,), (1, 1)),),) * 2 + ((((0, 1), (1, 1)),),) * 2))
        self.assertEqual(habit_of((2, 2), {((1,), (1,)): (1, 3), ((), ()): (1, 6)}).rows, (
            (((), (1, 6)), ((0, 1), (5, 6))), (((), (1, 6)), ((0, 1), (1, 2)), ((1,), (1, 3))),
            (((), (1, 6)), ((0, 1), (5, 6))), (((), (1, 6)), ((0, 1), (1, 2)), ((1,), (1, 3)))))

    def test_without_shares_all_is_shown(self):
        for sizes in SIZES + [(4, 4, 4, 4)]:
            self.assertEqual(habit_of(sizes, {}), whole(sizes))

    def test_boxes_with_the_share_0_are_not_shown(self):
        self.assertEqual(habit_of((2, 2), {((0,), (0,)): (0, 1)}), whole((2, 2)))

    def test_shares_that_come_to_1_just_so(self):
        habit = habit_of((2, 2), {((), ()): (1, 3), ((0,), (1,)): (2, 3)})
        self.assertEqual(habit.rows[2], (((), (1, 3)), ((0,), (2, 3))))
        self.assertEqual(habit.rows[0], (((), (1, 3)), ((0, 1), (2, 3))))

    def test_shares_that_come_to_more(self):
        for shares, content in [
                ({((0,), (1,)): (2, 3), ((), ()): (1, 2)}, (1, 0)),
                ({((0,), (1,)): (1, 2), ((1,), (1,)): (1, 1)}, (1, 1)),
                ({((1,), (1,)): (1, 1), ((0,), (0,)): (1, 10 ** 59)}, (0, 1)),
                ({((0,), (0,)): (1, 1), ((0,), (1,)): (1, 1), ((1,), (0,)): (1, 1), ((1,), (1,)): (1, 1)}, (0, 0))]:
            with self.assertRaises(TooMuch) as caught:
                habit_of((2, 2), shares)
            self.assertEqual(caught.exception.content, content)

    def test_wrong_sizes(self):
        for sizes in strangers() + [(), (5,), (4, 4, 4, 4, 2), [2, 2]]:
            with self.assertRaises(BadSizes):
                habit_of(sizes, {})
        with self.assertRaises(BadSizes):
            habit_of([2, 2], None)

    def test_wrong_shares(self):
        for thing in [thing for thing in strangers() if thing != {}]:
            with self.assertRaises(NoShares):
                habit_of((2, 2), thing)
        for part in strangers() + [(2, 1), (-1, 2), (2, 4), (0, 2), (1, 0), (0, True), (True, 1), [1, 2], "12", 1]:
            with self.assertRaises(NoShares):
                habit_of((2, 2), {((0,), (0,)): part})
            with self.assertRaises(NoShares):
                habit_of((2, 2), {((1,), (1,)): (1, 2), ((0,), (0,)): part})
        for box in [((0, 1), (0, 0)), ((2,), (0,)), ((0,), (2,)), ((0,), ()), ((1, 0), (0, 0)), (0,), 0, "", None,
                    (), b"a", deep_tuple(39), int, BadSizes(), ((0,), "0"), ("0", (0,)), ((0,), (0,), ()), ((), (0,))]:
            with self.assertRaises(NoShares):
                habit_of((2, 2), {box: (1, 2)})
            with self.assertRaises(NoShares):
                habit_of((2, 2), {((0,), (0,)): (1, 2), box: (1, 2)})

    def test_boxes_of_all_columns_are_no_part(self):
        with self.assertRaises(NoShares):
            habit_of((2,), {((0,), (0,)): (1, 2)})
        self.assertEqual(box_shares(habit_of((2,), {((), ()): (1, 2)})), {((), ()): (1, 2)})

    def test_wrong_shares_come_ahead_of_too_much(self):
        with self.assertRaises(NoShares):
            habit_of((2, 2), {((), ()): (1, 1), ((0,), (0,)): (1, 1), ((1,), (0,)): None})

    def test_the_dict_is_not_changed_and_not_kept(self):
        shares = {((0,), (0,)): (1, 2), ((), ()): (0, 1)}
        habit = habit_of((2, 2), shares)
        self.assertEqual(shares, {((0,), (0,)): (1, 2), ((), ()): (0, 1)})
        shares.clear()
        self.assertEqual(box_shares(habit), {((0,), (0,)): (1, 2)})

    def test_the_order_of_keys_means_nothing(self):
        shares = {((1,), (0,)): (1, 2), ((0,), (0,)): (1, 3), ((), ()): (1, 6)}
        turned = {box: shares[box] for box in reversed(list(shares))}
        self.assertEqual(habit_of((2, 2), shares), habit_of((2, 2), turned))

    def test_there_and_back(self):
        chance = random.Random(2)
        for _ in range(200):
            sizes = chance.choice(SIZES)
            shares = random_shares(sizes, chance)
            habit = habit_of(sizes, shares)
            self.assertIs(is_fair(habit), True)
            self.assertEqual(box_shares(habit), {box: part for box, part in shares.items() if part != (0, 1)})
            self.assertEqual(habit_of(sizes, box_shares(habit)), habit)
            for (pattern, worths), part in shares.items():
                for content in in_box(sizes, (pattern, worths)):
                    self.assertEqual(share(habit, pattern, content), part)

    def test_great_sizes_with_shares_of_many_digits(self):
        sizes = (4, 4, 4, 2, 2)
        parts = [pattern for pattern in all_patterns(5) if len(pattern) < 5]
        shares = {}
        for pattern in parts:
            for worths in product(*[range(sizes[c]) for c in pattern]):
                shares[(pattern, worths)] = (1, 10 ** 58 + 7 * len(shares))
        habit = habit_of(sizes, shares)
        self.assertEqual(box_shares(habit), shares)


if __name__ == "__main__":
    unittest.main()
