import random
import unittest
from fractions import Fraction
from itertools import combinations

from fairmasks.askers import Asker, asker_habit
from fairmasks.bets import is_bet, pays, ring_bet, ring_habit
from fairmasks.errors import NotFair, TooMany
from fairmasks.habits import Habit, box_shares, habit_of, patterns, unfair
from fairmasks.lists import order
from fairmasks.making import program_of
from fairmasks.papers import asker_for, best_bet, bet_for, greatest_share, twin
from fairmasks.programs import Program
from fairmasks.running import habit_by
from fairmasks.sharing import mixed, renamed
from makers import (ROOT, SIZES, all_contents, all_runs, boxes_of, pair, part_patterns, random_asker, random_fair,
                    random_program, random_shares, whole)
from test_bets import FIVE, FOUR, RINGED, RINGS
from test_running import RUNS

HALF = (1, 2)
CALLS = [asker_for, bet_for, best_bet, greatest_share]
UNFAIR = Habit((2, 2), ((((0,), (1, 1)),), (((0,), (1, 1)),), (((1,), (1, 1)),), (((1,), (1, 1)),)))


def has_ring(habit):
    columns = len(habit.sizes)
    parts = [pattern for pattern in patterns(habit) if len(pattern) < columns]
    for many in range(3, columns + 1):
        for chosen in combinations(parts, many):
            if order(columns, tuple(sorted(chosen + (tuple(range(columns)),)))) is None:
                return True
    return False


def times(habit, part):
    """The habit with so many times the shares of part patterns."""
    shares = {box: pair(Fraction(*share) * Fraction(*part)) for box, share in box_shares(habit).items()}
    return habit_of(habit.sizes, shares)


def ringless(columns, chance):
    """Part patterns with an order, as many as are let."""
    found = []
    for pattern in chance.sample(part_patterns(columns), len(part_patterns(columns))):
        listed = tuple(sorted(found + [pattern, tuple(range(columns))]))
        if len(found) < 11 and order(columns, listed) is not None:
            found.append(pattern)
    return found


def ringed_habit(chance):
    """A fair habit near to one of a ring, for which there is now an asker, now a bet."""
    sizes, ring = chance.choice([told for told in RINGS if told[0] in SMALL])
    other = random_fair(sizes, chance)
    part = chance.choice([(0, 1), (1, 5), (1, 3), HALF, (2, 3), (1, 1)])
    return mixed(ring_habit(sizes, ring), mixed(whole(sizes), other, HALF), part)


def showing(habit):
    """A program that opens all of a row of three columns with two worths, and shows it as a habit tells."""
    def at(content):
        if len(content) < 3:
            return (("if", ("cell", len(content), 0), at(content + (0,)), at(content + (1,))),)
        row = habit.rows[all_contents(habit.sizes).index(content)]
        (first, part), last = row[0], row[-1][0]
        assert len(row) == 1 or (len(row) == 2 and part[0] == 1)
        if len(row) == 1:
            return (("show", first),)
        return (("throw", "a", part[1]), ("if", ("name", "a", 0), (("show", first),), (("show", last),)))
    return Program(habit.sizes, at(()))


SMALL = [(2, 2, 2), (3, 2, 2), (2, 2, 2, 2), (3, 3, 3), (4, 4, 2), (3, 3, 4)]
# A ring of one column more than the sizes let, and of many: products of 108, 100, 3125, 243.
GREAT = [((2, 2, 2, 3), RINGED), ((4, 4, 3), RINGED), ((4, 4, 4, 4), RINGED), ((2, 2, 2, 2, 2), FIVE),
         ((2, 2, 2, 2, 2), RINGED), ((3, 3, 3, 3), FOUR)]


class Papers(unittest.TestCase):
    def assert_papers(self, habit):
        """Just one of both papers, and that it is right. Returns whether it is an asker."""
        asker, bet = asker_for(habit), bet_for(habit)
        self.assertNotEqual(asker is None, bet is None)
        if asker is not None:
            self.assertIs(type(asker), Asker)
            self.assertEqual(asker_habit(asker), habit)
        else:
            self.assertIs(is_bet(habit.sizes, bet), True)
            self.assertGreater(Fraction(*pays(bet, habit)), 1)
        return asker is not None

    def assert_best(self, habit):
        """That no bet pays more than the best one, as the habit of an asker shows."""
        most, bet = best_bet(habit)
        self.assertIs(is_bet(habit.sizes, bet), True)
        self.assertEqual(pays(bet, habit), most)
        share = greatest_share(habit)
        self.assertEqual(share, pair(min(Fraction(1), 1 / Fraction(*most))) if most != (0, 1) else (1, 1))
        self.assertIsNotNone(asker_for(times(habit, share)))
        if share != (1, 1):
            self.assertIsNone(asker_for(times(habit, pair(Fraction(*share) + Fraction(1, 10 ** 12)))))
        elif most != (0, 1):
            # If it pays less than 1, a habit with greater shares would have an asker, but they may come to over 1.
            self.assertLessEqual(Fraction(*most), 1)

    def test_ordinary_ones(self):
        self.assertEqual(asker_for(whole((2,))).moves[ROOT], ((0, (1, 1)),))
        self.assertEqual(asker_for(habit_of((2,), {ROOT: (1, 1)})), Asker((2,), {ROOT: ((-1, (1, 1)),)}))
        self.assertTrue(self.assert_papers(habit_of((2, 2), {((0,), (0,)): (1, 1)})))
        self.assertFalse(self.assert_papers(ring_habit((2, 2, 2), RINGED)))

    def test_habits_of_rings(self):
        for sizes, ring in RINGS:
            if sizes in SMALL:
                habit = ring_habit(sizes, ring)
                self.assertFalse(self.assert_papers(habit))
                self.assert_best(habit)
                many = len(ring[0])
                self.assertGreaterEqual(Fraction(*best_bet(habit)[0]), Fraction(many, many - 1))

    def test_a_habit_of_a_ring_with_one_pattern_shown_whole(self):
        for sizes, ring in RINGS + GREAT:
            shares = box_shares(ring_habit(sizes, ring))
            for lost in ring[0]:
                kept = {box: part for box, part in shares.items() if box[0] != lost}
                self.assertTrue(self.assert_papers(habit_of(sizes, kept)))

    def test_a_ring_may_yet_have_an_asker(self):
        for part, told in [((1, 3), True), (HALF, True), ((2, 3), True), ((667, 1000), False), ((3, 4), False)]:
            habit = times(ring_habit((2, 2, 2), RINGED), part)
            self.assertTrue(has_ring(habit))
            self.assertIs(self.assert_papers(habit), told)

    def test_asker_or_bet_by_chance(self):
        chance = random.Random(1)
        seen = {}
        for _ in range(150):
            habit = ringed_habit(chance)
            told = (self.assert_papers(habit), has_ring(habit))
            seen[told] = seen.get(told, 0) + 1
        self.assertGreater(seen[(True, True)], 15)
        self.assertGreater(seen[(False, True)], 15)
        self.assertNotIn((False, False), seen)

    def test_all_part_patterns_at_once(self):
        chance = random.Random(2)
        for _ in range(30):
            sizes = chance.choice(SMALL)
            habit = habit_of(sizes, random_shares(sizes, part_patterns(len(sizes)), chance, chance.choice([0.3, 1])))
            self.assert_papers(habit)
            self.assert_best(habit)

    def test_habits_of_askers(self):
        chance = random.Random(3)
        for _ in range(80):
            sizes = chance.choice(SIZES + SMALL)
            self.assertTrue(self.assert_papers(asker_habit(random_asker(sizes, chance, chance.choice([2, 5])))))

    def test_names_of_columns_mean_nothing(self):
        chance = random.Random(4)
        for _ in range(40):
            habit = ringed_habit(chance)
            columns = tuple(chance.sample(range(len(habit.sizes)), len(habit.sizes)))
            self.assertIs(asker_for(habit) is None, asker_for(renamed(habit, columns)) is None)
            self.assertEqual(best_bet(habit)[0], best_bet(renamed(habit, columns))[0])
            self.assertEqual(greatest_share(habit), greatest_share(renamed(habit, columns)))

    def test_patterns_without_a_ring(self):
        chance = random.Random(5)
        for sizes in [(2,), (2, 2), (4, 4), (2, 2, 2), (4, 3, 2), (2, 3, 2, 3), (2, 2, 2, 2, 2)] * 8:
            chosen = ringless(len(sizes), chance)
            habit = habit_of(sizes, random_shares(sizes, chosen, chance, chance.choice([0.2, 0.7, 1])))
            self.assertTrue(self.assert_papers(habit))

    def test_many_stands(self):
        chance = random.Random(6)
        for sizes in [(4, 4, 4, 2, 2), (4, 4, 4, 4), (3, 3, 3, 3, 3), (2, 2, 4, 4, 4)]:
            for _ in range(2):
                chosen = ringless(len(sizes), chance)
                habit = habit_of(sizes, random_shares(sizes, chosen, chance, 0.8))
                self.assertTrue(self.assert_papers(habit))
        self.assertTrue(self.assert_papers(whole((4, 4, 4, 2, 2))))

    def test_shares_of_many_digits(self):
        chance = random.Random(7)
        for sizes in [(2, 2, 2, 2), (3, 3, 4), (4, 4, 2)]:
            parts = part_patterns(len(sizes))
            shares = {}
            for box in [box for pattern in parts for box in boxes_of(sizes, pattern)]:
                shares[box] = pair(Fraction(chance.randint(1, 10 ** 58), len(parts) * 10 ** 58 + chance.randint(1, 10 ** 57)))
            habit = habit_of(sizes, shares)
            self.assert_papers(habit)
            self.assert_best(habit)

    def test_five_columns_with_more_patterns_than_a_list_has(self):
        sizes = (2, 2, 2, 2, 2)
        # 16 patterns one within another but for the last columns: no ring.
        chosen = [(), (0,), (0, 1), (0, 1, 2), (0, 1, 2, 3), (1,), (2,), (3,), (4,), (0, 4)]
        shares = {((), ()): (1, 20)}
        for pattern in chosen[1:]:
            for box in boxes_of(sizes, pattern):
                shares[box] = (1, 20)
        self.assertTrue(self.assert_papers(habit_of(sizes, shares)))
        for box in [box for pattern in part_patterns(5) for box in boxes_of(sizes, pattern)]:
            shares[box] = (1, 31)
        self.assertEqual(len(patterns(habit_of(sizes, shares))), 32)
        with self.assertRaises(TooMany):
            asker_for(habit_of(sizes, shares))

    def test_equal_calls_give_equal_ones(self):
        chance = random.Random(8)
        for _ in range(20):
            habit = ringed_habit(chance)
            other = Habit(habit.sizes, habit.rows)
            for call in CALLS:
                self.assertEqual(call(habit), call(other))

    def test_dicts_are_new(self):
        habit = ring_habit((2, 2, 2), RINGED)
        for call in (bet_for, lambda told: best_bet(told)[1]):
            call(habit).clear()
            self.assertEqual(pays(call(habit), habit), best_bet(habit)[0])


class Best(unittest.TestCase):
    def test_ordinary_ones(self):
        self.assertEqual(best_bet(whole((2, 2))), ((0, 1), {}))
        self.assertEqual(greatest_share(whole((2, 2))), (1, 1))
        self.assertEqual(best_bet(habit_of((2,), {ROOT: (2, 3)})), ((2, 3), {ROOT: (1, 1)}))
        self.assertEqual(greatest_share(habit_of((2,), {ROOT: (2, 3)})), (1, 1))
        habit = habit_of((2, 2), {((0,), (0,)): HALF, ((1,), (1,)): (1, 4)})
        self.assertEqual(best_bet(habit)[0], (3, 4))

    def test_of_rings(self):
        self.assertEqual(best_bet(ring_habit((2, 2, 2), RINGED))[0], (3, 2))
        self.assertEqual(greatest_share(ring_habit((2, 2, 2), RINGED)), (2, 3))
        self.assertEqual(best_bet(ring_habit((2, 2, 2, 2), FOUR))[0], (4, 3))
        self.assertEqual(greatest_share(ring_habit((2, 2, 2, 2), FOUR)), (3, 4))

    def test_no_bet_pays_more(self):
        chance = random.Random(9)
        for _ in range(60):
            habit = ringed_habit(chance)
            most = Fraction(*best_bet(habit)[0])
            for sizes, ring in RINGS:
                if sizes == habit.sizes:
                    self.assertLessEqual(Fraction(*pays(ring_bet(sizes, ring), habit)), most)

    def test_certain_ones(self):
        chance = random.Random(10)
        for _ in range(50):
            Papers.assert_best(self, ringed_habit(chance))


class Errors(unittest.TestCase):
    def test_not_fair(self):
        # Also where there are too many boxes, and a ring.
        great = Habit((4, 4, 4, 4), (UNFAIR.rows[0],) * 255 + ((((0,), HALF), ((1,), HALF)),))
        for habit in (UNFAIR, great):
            for call in CALLS:
                with self.assertRaises(NotFair):
                    call(habit)

    def test_products_of_81_and_above(self):
        for sizes, ring in GREAT:
            for call in CALLS:
                with self.assertRaises(TooMany) as caught:
                    call(ring_habit(sizes, ring))
                self.assertEqual(caught.exception.most, 81)
        for sizes, ring in [((2, 2, 2, 2), RINGED), ((2, 2, 2, 2), FOUR), ((3, 3, 4), RINGED), ((4, 4, 2), RINGED)]:
            self.assertIsNone(asker_for(ring_habit(sizes, ring)))
            self.assertIsNotNone(bet_for(ring_habit(sizes, ring)))
            best_bet(ring_habit(sizes, ring))
            greatest_share(ring_habit(sizes, ring))

    def test_without_a_ring(self):
        for sizes in [(2, 2, 2, 3), (4, 4, 3), (4, 4, 4, 4), (2, 2, 2, 2, 2), (4, 4, 4, 2, 2)]:
            habit = habit_of(sizes, {((0,), (0,)): HALF})
            self.assertEqual(asker_habit(asker_for(habit)), habit)
            self.assertIsNone(bet_for(habit))
            for call in (best_bet, greatest_share):
                for told in (habit, whole(sizes)):
                    with self.assertRaises(TooMany) as caught:
                        call(told)
                    self.assertEqual(caught.exception.most, 81)

    def test_a_ring_that_is_hardly_shown(self):
        # There is an asker, but the patterns hold a ring.
        habit = times(ring_habit((2, 2, 2, 3), RINGED), (1, 10))
        for call in CALLS:
            with self.assertRaises(TooMany):
                call(habit)


class Twins(unittest.TestCase):
    def test_unfair(self):
        program = Program((2, 2), (("if", ("cell", 0, 1), (("show", (1,)),), ()),))
        self.assertEqual(twin(program), ("unfair", ((1,), (0, 0), (1, 0))))

    def test_an_asker(self):
        program = Program((2, 2), (("if", ("cell", 0, 1), (("open", 1),), ()),))
        kind, asker = twin(program)
        self.assertEqual(kind, "asker")
        self.assertEqual(asker_habit(asker), habit_by(program))
        # It peeks, but is fair: there is an asker with its habit.
        program = Program((2, 2), (("open", 0), ("open", 1), ("show", (0,))))
        self.assertEqual(twin(program)[0], "asker")

    def test_a_bet(self):
        habit = ring_habit((2, 2, 2), RINGED)
        program = showing(habit)
        self.assertEqual(habit_by(program), habit)
        kind, bet = twin(program)
        self.assertEqual(kind, "bet")
        self.assertIs(is_bet((2, 2, 2), bet), True)
        self.assertGreater(Fraction(*pays(bet, habit)), 1)

    def test_by_chance(self):
        chance = random.Random(11)
        seen = {}
        for _ in range(150):
            program = random_program(chance.choice(SIZES + [(2, 2, 2)] * 4), chance)
            if any(all_runs(program, content, 2000) is None for content in all_contents(program.sizes)):
                continue
            habit = habit_by(program)
            kind, told = twin(program)
            seen[kind] = seen.get(kind, 0) + 1
            if kind == "unfair":
                self.assertEqual(told, unfair(habit))
            elif kind == "asker":
                self.assertEqual(asker_habit(told), habit)
            else:
                self.assertGreater(Fraction(*pays(told, habit)), 1)
            self.assertIs(kind == "unfair", unfair(habit) is not None)
        self.assertGreater(min(seen["unfair"], seen["asker"]), 10)

    def test_of_programs_of_askers(self):
        chance = random.Random(12)
        for _ in range(20):
            asker = random_asker(chance.choice(SIZES[:4]), chance, 2)
            kind, told = twin(program_of(asker))
            self.assertEqual((kind, asker_habit(told)), ("asker", asker_habit(asker)))

    def test_too_many_runs(self):
        for block in RUNS[2001] + RUNS[10 ** 48]:
            for behind in [(), (("if", ("cell", 0, 1), (("show", (1,)),), ()),)]:
                with self.assertRaises(TooMany) as caught:
                    twin(Program((2, 2), block + behind))
                self.assertEqual(caught.exception.most, 2000)
        for block in RUNS[2000]:
            self.assertEqual(twin(Program((2, 2), block))[0], "asker")

    def test_too_many_boxes(self):
        # It is blind, but its patterns hold a ring.
        block = (("throw", "a", 3), ("if", ("name", "a", 0), (("show", (0, 1)),), ()),
                 ("if", ("name", "a", 1), (("show", (0, 2)),), (("show", (1, 2)),)))
        self.assertEqual(twin(Program((2, 2, 2), block))[0], "asker")
        with self.assertRaises(TooMany) as caught:
            twin(Program((2, 2, 2, 3), block))
        self.assertEqual(caught.exception.most, 81)
        # Without a ring there is an asker, and what is unfair is told first.
        self.assertEqual(twin(Program((2, 2, 2, 3), block[:1] + (("if", ("name", "a", 0), (("show", (0,)),), ()),)))[0],
                         "asker")
        for sizes in [(2, 2, 2), (2, 2, 2, 3)]:
            told = twin(Program(sizes, (("if", ("cell", 0, 1), (("show", (1,)),), ()),) + block))
            self.assertEqual(told, ("unfair", ((1,), (0,) * len(sizes), (1,) + (0,) * (len(sizes) - 1))))


if __name__ == "__main__":
    unittest.main()
