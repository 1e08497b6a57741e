import random
import unittest
from fractions import Fraction

from fairmasks.errors import NoChances, NoQuestion, NoRows, NoWeights
from fairmasks.habits import Habit, habit_of
from fairmasks.questions import is_telling, mean, spread, spread_of_rows, two_chances, weights_for
from fairmasks.bets import ring_habit
from makers import (ROOT, SIZES, all_contents, all_patterns, at, boxes_of, even_chances, pair, part_patterns,
                    random_chances, random_fair, random_habit, random_shares, whole)
from samples import deep_dict, deep_list, deep_pair, deep_tuple, small_habit, strangers
from test_bets import RINGED
from test_linear import has_solution

HALF = (1, 2)
# Column 0 alone is shown of all contents.
ONE = Habit((2, 2), ((((0,), (1, 1)),),) * 4)
# Each column alone is shown half of the times.
EACH = Habit((2, 2), ((((0,), HALF), ((1,), HALF)),) * 4)
# Column 1 alone is shown only if column 0 has 1.
UNFAIR = Habit((2, 2), ((((0,), (1, 1)),), (((0,), (1, 1)),), (((1,), (1, 1)),), (((1,), (1, 1)),)))


def integers(*tops):
    return tuple((top, 1) for top in tops)


def shares_of(habit):
    """The dict from the boxes that are shown at times to the dict from contents to shares."""
    found = {}
    for content, row in zip(all_contents(habit.sizes), habit.rows):
        for pattern, part in row:
            found.setdefault((pattern, at(pattern, content)), {})[content] = Fraction(*part)
    return found


def told_by(habit, weights):
    """The question that weights tell, by the words of the document."""
    shares = shares_of(habit)
    return tuple(pair(sum(shares[box].get(content, 0) * Fraction(*weights[box]) for box in weights))
                 for content in all_contents(habit.sizes))


def draws(habit, weights, content):
    """The list of (share, weight) of what is shown of a content."""
    row = habit.rows[all_contents(habit.sizes).index(content)]
    return [(Fraction(*part), Fraction(*weights.get((pattern, at(pattern, content)), (0, 1)))) for pattern, part in row]


def variance(parts):
    middle = sum(part * weight for part, weight in parts)
    return sum(part * (weight - middle) ** 2 for part, weight in parts)


def random_fraction(chance, digits=1):
    limit = 10 ** digits
    return pair(Fraction(chance.randint(-limit, limit), chance.randint(1, limit)))


def random_weights(habit, chance, digits=1):
    return {box: random_fraction(chance, digits) for box in shares_of(habit) if chance.random() < 0.8}


def random_question(habit, chance, digits=1):
    """A question that is told by some weights, or one that hardly is."""
    question = told_by(habit, random_weights(habit, chance, digits))
    if chance.random() < 0.5:
        question = list(question)
        question[chance.randrange(len(question))] = random_fraction(chance, digits)
    return tuple(question)


def long_row(shown, chance, digits):
    parts = [chance.randint(1, 10 ** digits) for _ in shown]
    return tuple((pattern, pair(Fraction(part, sum(parts)))) for pattern, part in zip(sorted(shown), parts))


class Eighth(unittest.TestCase):
    def assert_either(self, habit, question):
        """Just one of weights and two chances, and that it is right. Returns whether it is weights."""
        weights, pair_of_chances = weights_for(habit, question), two_chances(habit, question)
        self.assertNotEqual(weights is None, pair_of_chances is None)
        if weights is not None:
            self.assertIs(type(weights), dict)
            self.assertEqual(told_by(habit, weights), question)
            self.assertIs(is_telling(habit, question, weights), True)
            return True
        self.assertIs(type(pair_of_chances), tuple)
        one, other = pair_of_chances
        for chances in (one, other):
            self.assertIs(type(chances), tuple)
            self.assertEqual(len(chances), len(habit.rows))
            self.assertEqual(sum(Fraction(*part) for part in chances), 1)
            for part in chances:
                self.assertEqual(pair(Fraction(*part)), part)
                self.assertGreater(part[0], 0)
        ones = dict(zip(all_contents(habit.sizes), [Fraction(*part) for part in one]))
        others = dict(zip(all_contents(habit.sizes), [Fraction(*part) for part in other]))
        for shares in shares_of(habit).values():
            self.assertEqual(sum(part * ones[c] for c, part in shares.items()),
                             sum(part * others[c] for c, part in shares.items()))
        means = [sum(Fraction(*part) * chance for part, chance in zip(question, told.values())) for told in (ones, others)]
        self.assertNotEqual(*means)
        return False

    def test_ordinary_ones(self):
        # How many rows have 1 in column 0, and how many in column 1.
        self.assertTrue(self.assert_either(ONE, integers(0, 0, 1, 1)))
        self.assertFalse(self.assert_either(ONE, integers(0, 1, 0, 1)))
        self.assertEqual(weights_for(ONE, integers(0, 0, 1, 1)), {((0,), (1,)): (1, 1)})

    def test_all_that_is_shown_whole_is_told(self):
        chance = random.Random(1)
        for sizes in SIZES:
            question = tuple(random_fraction(chance) for _ in all_contents(sizes))
            self.assertTrue(self.assert_either(whole(sizes), question))

    def test_nothing_shown(self):
        for sizes in SIZES:
            hidden = habit_of(sizes, {ROOT: (1, 1)})
            many = len(all_contents(sizes))
            self.assertTrue(self.assert_either(hidden, ((3, 7),) * many))
            self.assertFalse(self.assert_either(hidden, ((3, 7),) * (many - 1) + ((3, 8),)))
            self.assertEqual(weights_for(hidden, ((3, 7),) * many), {ROOT: (3, 7)})

    def test_each_column_alone(self):
        # Sums of columns are told; whether both have 1 is not.
        self.assertTrue(self.assert_either(EACH, integers(0, 1, 1, 2)))
        self.assertTrue(self.assert_either(EACH, integers(5, 2, 7, 4)))
        self.assertFalse(self.assert_either(EACH, integers(0, 0, 0, 1)))
        one, other = two_chances(EACH, integers(0, 0, 0, 1))
        self.assertEqual(one[0] == other[0], False)

    def test_a_question_that_is_0(self):
        for habit in (ONE, EACH, UNFAIR, whole((2, 2))):
            self.assertTrue(self.assert_either(habit, integers(0, 0, 0, 0)))
            self.assertIs(is_telling(habit, integers(0, 0, 0, 0), {}), True)

    def test_habits_that_are_not_fair(self):
        self.assertTrue(self.assert_either(UNFAIR, integers(2, 2, 1, 3)))
        self.assertFalse(self.assert_either(UNFAIR, integers(0, 1, 0, 1)))
        # Here just because it is not fair both contents can be told apart.
        habit = Habit((2,), ((((), HALF), ((0,), HALF)), (((), (1, 1)),)))
        self.assertTrue(self.assert_either(habit, integers(3, 8)))

    def test_chances_that_can_hardly_be_moved(self):
        # They can be moved in one way alone: one content gets less by three times what each other one gets more.
        habit = Habit((2, 2), ((((), (2, 3)), ((0,), (1, 6)), ((1,), (1, 6))), (((), HALF), ((0,), HALF)),
                               (((), HALF), ((1,), HALF)), (((), (1, 1)),)))
        for question in [integers(1, 0, 0, 0), integers(-1, 0, 0, 0), integers(0, 0, 0, 1), integers(0, 0, 0, -1),
                         integers(0, 1, 0, 0), integers(7, -2, 5, 5)]:
            self.assertFalse(self.assert_either(habit, question))
            one, other = two_chances(habit, question)
            moves = [Fraction(*new) - Fraction(*old) for old, new in zip(one, other)]
            self.assertEqual(moves, [-3 * moves[3], moves[3], moves[3], moves[3]])
        self.assertTrue(self.assert_either(habit, integers(1, 1, 1, 1)))

    def test_by_chance(self):
        chance = random.Random(2)
        seen = {True: 0, False: 0}
        for _ in range(250):
            sizes = chance.choice(SIZES)
            habit = chance.choice([random_habit, random_fair])(sizes, chance)
            if chance.random() < 0.3:
                habit = habit_of(sizes, random_shares(sizes, part_patterns(len(sizes))[:3], chance, 1))
            question = random_question(habit, chance)
            told = self.assert_either(habit, question)
            seen[told] += 1
            boxes = list(shares_of(habit).values())
            rows = [[shares.get(content, Fraction(0)) for shares in boxes] for content in all_contents(sizes)]
            self.assertIs(told, has_solution(rows, [Fraction(*part) for part in question]))
        self.assertGreater(min(seen.values()), 30)

    def test_habits_of_rings(self):
        chance = random.Random(3)
        habit = ring_habit((2, 2, 2), RINGED)
        seen = {True: 0, False: 0}
        for _ in range(40):
            seen[self.assert_either(habit, random_question(habit, chance))] += 1
        self.assertGreater(seen[True], 5)

    def test_great_sizes_and_long_numbers(self):
        chance = random.Random(4)
        for sizes, most in [((4, 4, 4, 4), 1), ((4, 4, 4, 4), 3), ((4, 4, 4, 2, 2), 2), ((4, 4, 4, 2, 2), 4)]:
            shown = [pattern for pattern in all_patterns(len(sizes)) if len(pattern) <= most]
            habit = Habit(sizes, (long_row(shown, chance, 50),) * 256)
            self.assertTrue(self.assert_either(habit, told_by(habit, random_weights(habit, chance, 3))))
            self.assertFalse(self.assert_either(habit, tuple(random_fraction(chance, 3) for _ in habit.rows)))

    def test_great_sizes_that_are_not_fair(self):
        chance = random.Random(5)
        for sizes, most in [((4, 4, 4, 4), 1), ((4, 4, 4, 4), 3), ((4, 4, 4, 2, 2), 2)]:
            shown = [pattern for pattern in all_patterns(len(sizes)) if len(pattern) <= most]
            rows = tuple(long_row(chance.sample(shown, min(len(shown), 3)), chance, 18) for _ in range(256))
            habit = Habit(sizes, rows)
            self.assertTrue(self.assert_either(habit, told_by(habit, random_weights(habit, chance, 3))))
            self.assertFalse(self.assert_either(habit, tuple(random_fraction(chance, 1) for _ in rows)))

    def test_shares_of_boxes_with_long_numbers(self):
        chance = random.Random(6)
        sizes = (4, 4, 4, 4)
        parts = part_patterns(4)
        shares = {box: pair(Fraction(chance.randint(1, 10 ** 58), 15 * 10 ** 58)) for pattern in parts
                  for box in boxes_of(sizes, pattern)}
        habit = habit_of(sizes, shares)
        self.assertTrue(self.assert_either(habit, tuple(random_fraction(chance, 30) for _ in range(256))))

    def test_equal_calls_give_equal_ones(self):
        chance = random.Random(7)
        for _ in range(30):
            habit = random_habit(chance.choice(SIZES), chance)
            question = random_question(habit, chance)
            other = Habit(habit.sizes, habit.rows)
            self.assertEqual(weights_for(habit, question), weights_for(other, question))
            self.assertEqual(two_chances(habit, question), two_chances(other, question))

    def test_dicts_are_new(self):
        question = integers(0, 0, 1, 1)
        weights_for(ONE, question).clear()
        self.assertEqual(told_by(ONE, weights_for(ONE, question)), question)


NO_QUESTIONS = [
    (), ((0, 1),) * 3, ((0, 1),) * 5, [(0, 1)] * 4, ((0, 1), (0, 1), (0, 1), (2, 4)), ((0, 1), (0, 1), (0, 1), (1, 0)),
    ((0, 1), (0, 1), (0, 1), (1, -1)), ((0, 1), (0, 1), (0, 1), (0, 2)), ((0, 1), (0, 1), (0, 1), 0), (0, 0, 0, 0),
    ((0, 1), (0, 1), (0, 1), (True, 1)), ((0, 1), (0, 1), (0, 1), (1, True)), ((0, 1), (0, 1), (0, 1), [0, 1]),
    ((0, 1), (0, 1), (0, 1), (0, 1, 1)), ((0, 1), (0, 1), (0, 1), None), ((0, 1), (0, 1), (0, 1), "01"),
    ((0, 1),) * 3 + (deep_tuple(39),), ((0, 1),) * 3 + (deep_list(39),), {0: (0, 1)}, "0000", deep_pair(10),
]


class Questions(unittest.TestCase):
    def test_wrong_questions(self):
        for question in strangers() + NO_QUESTIONS:
            for call in (lambda: is_telling(ONE, question, {}), lambda: is_telling(ONE, question, None),
                         lambda: weights_for(ONE, question), lambda: two_chances(ONE, question)):
                with self.assertRaises(NoQuestion):
                    call()

    def test_telling(self):
        question = integers(3, 3, 5, 5)
        right = {((0,), (0,)): (3, 1), ((0,), (1,)): (5, 1)}
        self.assertIs(is_telling(ONE, question, right), True)
        for thing in [{}, {((0,), (0,)): (3, 1)}, {**right, ((0,), (1,)): (5, 2)}, {**right, ((1,), (0,)): (0, 1)},
                      {**right, ROOT: (0, 1)}, {**right, ((0,), (2,)): (0, 1)}, list(right.items()),
                      {**right, ((0,), (1,)): 5}, {**right, ((0,), (1,)): (10, 2)}, {**right, ((0,), (1,)): [5, 1]}]:
            self.assertIs(is_telling(ONE, question, thing), False, thing)

    def test_a_weight_of_0_is_one(self):
        self.assertIs(is_telling(ONE, integers(1, 1, 0, 0), {((0,), (0,)): (1, 1), ((0,), (1,)): (0, 1)}), True)

    def test_several_weights_may_tell(self):
        question = integers(0, 1, 1, 2)
        for more in (0, 1, -5):
            weights = {((0,), (0,)): (more, 1), ((0,), (1,)): (2 + more, 1), ((1,), (0,)): (-more, 1),
                       ((1,), (1,)): (2 - more, 1)}
            self.assertIs(is_telling(EACH, question, weights), True)

    def test_by_chance(self):
        chance = random.Random(8)
        for _ in range(100):
            habit = random_habit(chance.choice(SIZES), chance)
            weights = random_weights(habit, chance)
            question = told_by(habit, weights)
            self.assertIs(is_telling(habit, question, weights), True)
            place = chance.randrange(len(question))
            other = pair(Fraction(*question[place]) + Fraction(1, 10 ** 30))
            self.assertIs(is_telling(habit, question[:place] + (other,) + question[place + 1:], weights), False)

    def test_anything_is_judged(self):
        for thing in strangers() + NO_WEIGHTS:
            self.assertIs(is_telling(ONE, integers(1, 1, 1, 1), thing), False)


CELL = ((0,), (0,))
NO_WEIGHTS = [
    [(CELL, (1, 1))], {CELL: 1}, {CELL: (2, 2)}, {CELL: (1, 0)}, {CELL: [1, 1]}, {CELL: (True, 1)}, {CELL: None},
    {CELL: (1, 1, 1)}, {CELL: "11"}, {ROOT: (0, 1)}, {((1,), (0,)): (0, 1)}, {((0, 1), (0, 0)): (1, 1)},
    {((0,), (2,)): (1, 1)}, {(0, 0): (1, 1)}, {CELL: (1, 1), None: (1, 1)}, {CELL: (1, 1), "": (1, 1)}, {0: (1, 1)},
    {CELL: deep_tuple(39)}, {deep_tuple(39): (1, 1)}, {CELL: deep_list(39)}, {CELL: small_habit()}, {len: (1, 1)},
    {(CELL,): (1, 1)}, (CELL,), CELL, None, {CELL: CELL}, {b"": (1, 1)}, deep_dict(40),
]


class Spreads(unittest.TestCase):
    def test_ordinary_ones(self):
        weights = {CELL: (3, 1), ((0,), (1,)): (5, 1)}
        self.assertEqual(mean(ONE, weights, even_chances((2, 2))), (4, 1))
        self.assertEqual(spread(ONE, weights, even_chances((2, 2))), (1, 1))
        self.assertEqual(mean(ONE, weights, ((1, 8), (1, 8), HALF, (1, 4))), (9, 2))
        # What is shown of a content is shown without throws.
        self.assertEqual(spread_of_rows(ONE, weights, all_contents((2, 2))), (0, 1))
        self.assertEqual(spread_of_rows(EACH, {CELL: (4, 1)}, [(0, 0)]), (4, 1))
        self.assertEqual(spread_of_rows(EACH, {CELL: (4, 1)}, ((0, 0), (1, 1), (0, 1), (0, 1))), (12, 1))

    def test_no_weights_and_no_rows(self):
        self.assertEqual(mean(EACH, {}, even_chances((2, 2))), (0, 1))
        self.assertEqual(spread(EACH, {}, even_chances((2, 2))), (0, 1))
        for rows in ((), []):
            self.assertEqual(spread_of_rows(EACH, {CELL: (4, 1)}, rows), (0, 1))

    def test_by_chance(self):
        chance = random.Random(9)
        for _ in range(150):
            habit = chance.choice([random_habit, random_fair])(chance.choice(SIZES), chance)
            weights = random_weights(habit, chance, chance.choice([1, 10]))
            chances = random_chances(habit.sizes, chance)
            drawn = [(Fraction(*part) * one, weight) for content, part in zip(all_contents(habit.sizes), chances)
                     for one, weight in draws(habit, weights, content)]
            self.assertEqual(mean(habit, weights, chances), pair(sum(part * weight for part, weight in drawn)))
            self.assertEqual(spread(habit, weights, chances), pair(variance(drawn)))
            rows = chance.choices(all_contents(habit.sizes), k=chance.choice([1, 2, 20]))
            told = sum(variance(draws(habit, weights, content)) for content in rows)
            self.assertEqual(spread_of_rows(habit, weights, chance.choice([list, tuple])(rows)), pair(told))

    def test_weights_that_tell_have_the_mean_of_the_question(self):
        chance = random.Random(10)
        for _ in range(40):
            habit = random_habit(chance.choice(SIZES), chance)
            question = told_by(habit, random_weights(habit, chance))
            chances = random_chances(habit.sizes, chance)
            told = sum(Fraction(*part) * Fraction(*one) for part, one in zip(question, chances))
            self.assertEqual(mean(habit, weights_for(habit, question), chances), pair(told))

    def test_great_sizes(self):
        chance = random.Random(11)
        sizes = (4, 4, 4, 2, 2)
        habit = Habit(sizes, (long_row(all_patterns(5), chance, 50),) * 256)
        weights = random_weights(habit, chance, 2)
        self.assertGreater(spread(habit, weights, even_chances(sizes))[0], 0)
        rows = chance.choices(all_contents(sizes), k=200)
        told = sum(variance(draws(habit, weights, content)) for content in rows)
        self.assertEqual(spread_of_rows(habit, weights, rows), pair(told))

    def test_two_hundred_rows_and_more(self):
        for kind in (list, tuple):
            self.assertEqual(spread_of_rows(EACH, {CELL: (4, 1)}, kind([(0, 1)] * 200)), (800, 1))
            with self.assertRaises(NoRows):
                spread_of_rows(EACH, {CELL: (4, 1)}, kind([(0, 1)] * 201))

    def test_wrong_weights(self):
        for thing in strangers() + NO_WEIGHTS:
            if thing != {}:
                for last in (even_chances((2, 2)), None):
                    for call in (mean, spread, spread_of_rows):
                        with self.assertRaises(NoWeights):
                            call(ONE, thing, last)

    def test_wrong_chances(self):
        for thing in strangers() + [((1, 4),) * 3, [(1, 4)] * 4, (HALF, HALF, (0, 1), (0, 1)), ((1, 4),) * 5,
                                    ((1, 4), (1, 4), (1, 4), (1, 5)), ((2, 8),) * 4, None, (deep_list(39),) * 4]:
            for call in (mean, spread):
                with self.assertRaises(NoChances):
                    call(ONE, {}, thing)

    def test_wrong_rows(self):
        for thing in [thing for thing in strangers() if thing not in ((), [])] + [
                (0, 0), ((0, 0), (0, 2)), [(0, 0), None], ((0, 0), [0, 0]), {(0, 0): 0}, "00", ((0, True),), ((0,),),
                ((0, 0, 0),), (deep_tuple(39),), [deep_list(39)], range(0), iter([]), [()], ((-1, 0),), {}]:
            with self.assertRaises(NoRows):
                spread_of_rows(ONE, {}, thing)

    def test_nothing_is_changed(self):
        weights, rows = {CELL: (3, 1)}, [(0, 0), (1, 1)]
        spread_of_rows(EACH, weights, rows)
        spread(EACH, weights, even_chances((2, 2)))
        self.assertEqual((weights, rows), ({CELL: (3, 1)}, [(0, 0), (1, 1)]))


if __name__ == "__main__":
    unittest.main()
