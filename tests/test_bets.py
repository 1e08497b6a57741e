import random
import unittest
from fractions import Fraction

from fairmasks.askers import asker_habit
from fairmasks.bets import is_bet, pays, ring_bet, ring_habit
from fairmasks.errors import BadSizes, NoBet, NoRing, NotFair
from fairmasks.habits import Habit, box_shares, habit_of, is_fair, patterns, share
from makers import (ROOT, SIZES, all_boxes, all_contents, all_patterns, boxes_of, is_in, pair, random_asker,
                    random_chances, random_fair, whole, wider)
from samples import deep_dict, deep_list, deep_tuple, small_habit, strangers

HALF = (1, 2)
RINGED = (((0, 1), (1, 2), (0, 2)), (1, 2, 0))
FOUR = (((0, 1), (1, 2), (2, 3), (0, 3)), (1, 2, 3, 0))
FIVE = (((0, 1), (1, 2), (2, 3), (3, 4), (0, 4)), (1, 2, 3, 4, 0))
# Rings with columns that are in one pattern alone, in all of them, or in none, and with rings of other sizes.
RINGS = [
    ((2, 2, 2), RINGED), ((4, 3, 2), RINGED), ((2, 2, 2, 2), FOUR), ((4, 3, 4, 3), FOUR), ((2, 2, 2, 2, 2), FIVE),
    ((3, 2, 3, 2, 3), FIVE), ((2, 2, 2, 2), RINGED), ((2, 2, 2, 2, 2), FOUR),
    ((2, 2, 2, 3), (((0, 1, 3), (1, 2), (0, 2)), (1, 2, 0))), ((2, 2, 2, 3), (((0, 1, 3), (1, 2, 3), (0, 2, 3)), (1, 2, 0))),
    ((2, 3, 4, 2, 2), (((0, 2), (2, 4), (0, 3, 4)), (2, 4, 0))), ((2, 2, 2), (((0, 2), (1, 2), (0, 1)), (2, 1, 0))),
    ((2, 2, 2, 2), (((0, 1, 2), (0, 1, 3), (2, 3)), (0, 3, 2))),
]


def is_bet_by_words(sizes, bet):
    def has(box):
        return Fraction(*bet.get(box, (0, 1)))
    for box in all_boxes(sizes):
        for column in range(len(sizes)):
            if column not in box[0] and sum(has(inner) for inner in wider(sizes, box, column)) > has(box):
                return False
    return has(ROOT) <= 1


def random_bet(sizes, chance):
    """A bet: the chances of boxes, times what gets less with each column, so that some limits just hold."""
    chances = dict(zip(all_contents(sizes), random_chances(sizes, chance)))
    factor = {}
    for pattern in sorted(all_patterns(len(sizes)), key=len):
        less = [factor[inner] for inner in factor if set(inner) < set(pattern)]
        factor[pattern] = min(less + [Fraction(1)]) * chance.choice([1, 1, Fraction(1, 2)])
    bet = {}
    for box in all_boxes(sizes):
        part = factor[box[0]] * sum(Fraction(*chances[content]) for content in chances if is_in(content, box))
        if len(box[0]) < len(sizes) and chance.random() < 0.9:
            bet[box] = pair(part)
    return {box: part for box, part in bet.items() if all(
        inner in bet for pattern in all_patterns(len(sizes)) if set(pattern) <= set(box[0])
        for inner in [(pattern, tuple(worth for c, worth in zip(*box) if c in pattern))])}


class Judging(unittest.TestCase):
    def test_ordinary_ones(self):
        for bet in [{}, {ROOT: (1, 1)}, {ROOT: HALF}, {ROOT: (1, 1), ((0,), (0,)): HALF, ((0,), (1,)): HALF},
                    {ROOT: (1, 1), ((0,), (1,)): (1, 1), ((1,), (0,)): (1, 1)}, {ROOT: (1, 10 ** 59)}]:
            self.assertIs(is_bet((2, 2), bet), True, bet)
        for bet in [{ROOT: (2, 1)}, {((0,), (0,)): HALF}, {ROOT: HALF, ((0,), (0,)): (2, 3)},
                    {ROOT: (1, 1), ((0,), (0,)): HALF, ((0,), (1,)): (2, 3)}, {ROOT: (10 ** 59 + 1, 10 ** 59)}]:
            self.assertIs(is_bet((2, 2), bet), False, bet)

    def test_just_let_and_a_little_too_much(self):
        great = 10 ** 59
        bet = {ROOT: (1, 1), ((0,), (0,)): (1, 3), ((0,), (1,)): (2, 3), ((1,), (0,)): (great - 1, great),
               ((1,), (1,)): (1, great)}
        self.assertIs(is_bet((2, 2, 2), bet), True)
        self.assertIs(is_bet((2, 2, 2), {**bet, ((1,), (1,)): (2, great - 1)}), False)
        self.assertIs(is_bet((2, 2, 2), {**bet, ROOT: (great - 1, great)}), False)
        # All columns of a box limit it.
        inner = {**bet, ((0, 1), (1, 1)): (1, great)}
        self.assertIs(is_bet((2, 2, 2), inner), True)
        self.assertIs(is_bet((2, 2, 2), {**inner, ((0, 1), (0, 1)): (1, 10 ** 30)}), False)
        self.assertIs(is_bet((2, 2, 2), {**inner, ((0, 1), (1, 0)): (2, 3)}), False)
        self.assertIs(is_bet((2, 2, 2), {**inner, ((0, 1), (1, 0)): (1, 2)}), True)

    def test_a_column_more_is_limited_by_each_column_less(self):
        bet = {ROOT: (1, 1), ((0,), (0,)): (1, 1), ((0, 1), (0, 0)): HALF}
        self.assertIs(is_bet((2, 2, 2), bet), False)
        self.assertIs(is_bet((2, 2, 2), {**bet, ((1,), (0,)): HALF}), True)
        self.assertIs(is_bet((2, 2, 2), {**bet, ((1,), (1,)): HALF}), False)

    def test_boxes_of_all_columns_have_none(self):
        self.assertIs(is_bet((2,), {ROOT: (1, 1)}), True)
        self.assertIs(is_bet((2,), {ROOT: (1, 1), ((0,), (0,)): HALF}), False)
        bet = {ROOT: (1, 1), ((0,), (0,)): (1, 1), ((1,), (0,)): (1, 1), ((0, 1), (0, 0)): (1, 1)}
        self.assertIs(is_bet((2, 2), bet), False)
        self.assertIs(is_bet((2, 2, 2), bet), True)

    def test_by_the_words_of_the_document(self):
        chance = random.Random(1)
        seen = {True: 0, False: 0}
        for _ in range(250):
            sizes = chance.choice(SIZES + [(2, 2, 2, 2)])
            bet = random_bet(sizes, chance)
            self.assertIs(is_bet(sizes, bet), True)
            if bet and chance.random() < 0.8:
                box = chance.choice(list(bet))
                bet[box] = pair(Fraction(*bet[box]) * Fraction(chance.randint(90, 105), 100))
                if chance.random() < 0.3:
                    del bet[chance.choice(list(bet))]
            told = is_bet_by_words(sizes, bet)
            self.assertIs(is_bet(sizes, bet), told)
            seen[told] += 1
        self.assertGreater(min(seen.values()), 30)

    def test_five_columns(self):
        sizes = (4, 4, 4, 2, 2)
        even = {box: (1, len(boxes_of(sizes, box[0]))) for box in all_boxes(sizes) if len(box[0]) < 5}
        self.assertIs(is_bet(sizes, even), True)
        self.assertIs(is_bet(sizes, {**even, ((1, 2, 3, 4), (0, 0, 0, 0)): (1, 63)}), False)

    def test_wrong_sizes(self):
        for sizes in strangers() + [(), (1,), (5,), (4, 4, 4, 4, 2), [2, 2], (True, 2)]:
            for thing in ({}, None):
                with self.assertRaises(BadSizes):
                    is_bet(sizes, thing)

    def test_wrong_things(self):
        for thing in [thing for thing in strangers() if thing != {}] + [(), [(ROOT, (1, 1))], ((ROOT, (1, 1)),), whole((2, 2))]:
            self.assertIs(is_bet((2, 2), thing), False)
        for part in strangers() + [(0, 1), (-1, 2), (2, 4), (1, 0), (True, 1), (1, True), [1, 1], 1, "11", (1, 1, 1)]:
            self.assertIs(is_bet((2, 2), {ROOT: part}), False)
            self.assertIs(is_bet((2, 2), {ROOT: (1, 1), ((1,), (0,)): part}), False)
        for key in [((2,), (0,)), ((0,), (2,)), ((0,), ()), ((1, 0), (0, 0)), (), (0,), 0, None, "", b"", int, Ellipsis,
                    ((0,), (0,), ()), deep_tuple(39), ("0", (0,)), ((0,), "0"), ((0, 1), (0, 0)), BadSizes]:
            self.assertIs(is_bet((2, 2), {ROOT: (1, 1), key: (1, 2)}), False)
            self.assertIs(is_bet((2, 2), {key: (1, 2)}), False)
        self.assertIs(is_bet((2, 2), deep_dict(40)), False)
        self.assertIs(is_bet((2, 2), {ROOT: deep_list(39)}), False)


class Paying(unittest.TestCase):
    def test_ordinary_ones(self):
        habit = habit_of((2, 2), {ROOT: (1, 3), ((0,), (0,)): HALF})
        self.assertEqual(pays({}, habit), (0, 1))
        self.assertEqual(pays({ROOT: (1, 1)}, habit), (1, 3))
        self.assertEqual(pays({ROOT: (1, 1), ((0,), (0,)): (1, 1)}, habit), (5, 6))
        self.assertEqual(pays({ROOT: (1, 1), ((0,), (1,)): (1, 1), ((1,), (0,)): HALF}, habit), (1, 3))
        self.assertEqual(pays({ROOT: (1, 1)}, whole((2, 2))), (0, 1))

    def test_by_the_words_of_the_document(self):
        chance = random.Random(2)
        for _ in range(80):
            sizes = chance.choice(SIZES + [(2, 2, 2, 2)])
            bet, habit = random_bet(sizes, chance), random_fair(sizes, chance)
            told = 0
            for box, part in bet.items():
                content = next(content for content in all_contents(sizes) if is_in(content, box))
                told += Fraction(*part) * Fraction(*share(habit, box[0], content))
            self.assertEqual(pays(bet, habit), pair(told))

    def test_no_bet_pays_more_than_1_against_an_asker(self):
        chance = random.Random(3)
        for _ in range(80):
            sizes = chance.choice(SIZES + [(2, 2, 2, 2)])
            self.assertLessEqual(Fraction(*pays(random_bet(sizes, chance), asker_habit(random_asker(sizes, chance)))), 1)

    def test_wrong_habits_come_first(self):
        cell, other = (((0,), (1, 1)),), (((), (1, 1)),)
        for bet in ({}, None, {ROOT: (2, 1)}):
            with self.assertRaises(NotFair):
                pays(bet, Habit((2,), (cell, other)))

    def test_wrong_bets(self):
        for bet in [thing for thing in strangers() if thing != {}] + [
                {ROOT: (2, 1)}, {ROOT: 1}, {((0,), (0,)): HALF}, {ROOT: (1, 1), ((0,), (0,)): HALF}, {ROOT: HALF, 0: 0},
                [(ROOT, (1, 1))], {ROOT: (1, 1), ((1,), (0,)): (1, 1)}]:
            with self.assertRaises(NoBet):
                pays(bet, small_habit())

    def test_bets_are_of_the_sizes_of_the_habit(self):
        bet = {ROOT: (1, 1), ((0,), (2,)): (1, 1)}
        self.assertEqual(pays(bet, whole((3, 2))), (0, 1))
        with self.assertRaises(NoBet):
            pays(bet, whole((2, 3)))


def ring_shares(sizes, ring, content):
    """What is shown of a content by the habit of a ring, by the words of the document."""
    rs, cs = ring
    many = len(rs)
    shown = {}
    for k in range(many):
        told = (content[cs[k - 1]] if k > 0 else content[cs[many - 1]], content[cs[k]])
        if told in ([(0, 0), (1, 1)] if k < many - 1 else [(0, 1), (1, 0)]):
            shown[rs[k]] = Fraction(1, many - 1)
    if sum(shown.values()) < 1:
        shown[tuple(range(len(sizes)))] = 1 - sum(shown.values())
    return tuple((pattern, pair(shown[pattern])) for pattern in sorted(shown))


class Rings(unittest.TestCase):
    def test_the_habit_of_an_ordinary_one(self):
        self.assertEqual(ring_habit((2, 2, 2), RINGED).rows[0], (((0, 1), HALF), ((1, 2), HALF)))
        self.assertEqual(ring_habit((2, 2, 2), RINGED).rows[1], (((0, 1), HALF), ((0, 2), HALF)))
        self.assertEqual(ring_habit((2, 2, 2), RINGED).rows[2], (((0, 1, 2), (1, 1)),))

    def test_the_habits(self):
        for sizes, ring in RINGS:
            habit = ring_habit(sizes, ring)
            self.assertEqual(habit.sizes, sizes)
            for content, row in zip(all_contents(sizes), habit.rows):
                self.assertEqual(row, ring_shares(sizes, ring, content))
            self.assertIs(is_fair(habit), True)
            self.assertEqual(patterns(habit), tuple(sorted(ring[0] + (tuple(range(len(sizes))),))))

    def test_the_bets(self):
        for sizes, ring in RINGS:
            bet = ring_bet(sizes, ring)
            self.assertIs(is_bet(sizes, bet), True)
            self.assertIs(is_bet_by_words(sizes, bet), True)
            many = len(ring[0])
            self.assertEqual(pays(bet, ring_habit(sizes, ring)), (many, many - 1))

    def test_rings_turned_on_and_told_the_other_way_round(self):
        for sizes, (rs, cs) in RINGS:
            back, other = tuple(reversed(rs)), tuple(reversed(cs))
            for k in range(len(rs)):
                for ring in [(rs[k:] + rs[:k], cs[k:] + cs[:k]),
                             (back[k:] + back[:k], other[k + 1:] + other[:k + 1])]:
                    habit = ring_habit(sizes, ring)
                    self.assertEqual(habit.rows[-1], ring_shares(sizes, ring, all_contents(sizes)[-1]))
                    self.assertIs(is_fair(habit), True)
                    self.assertEqual(pays(ring_bet(sizes, ring), habit), (len(rs), len(rs) - 1))

    def test_it_matters_which_pattern_is_the_last(self):
        turned = (RINGED[0][1:] + RINGED[0][:1], RINGED[1][1:] + RINGED[1][:1])
        self.assertNotEqual(ring_habit((2, 2, 2), RINGED), ring_habit((2, 2, 2), turned))

    def test_worths_above_1_are_shown_all(self):
        habit = ring_habit((4, 4, 4), RINGED)
        for content, row in zip(all_contents((4, 4, 4)), habit.rows):
            if min(content) > 1:
                self.assertEqual(row, (((0, 1, 2), (1, 1)),))
        self.assertEqual(len(box_shares(habit)), 6)

    def test_example_e03(self):
        self.assertEqual(pays(ring_bet((2, 2, 2), RINGED), ring_habit((2, 2, 2), RINGED)), (3, 2))

    def test_dicts_are_new(self):
        ring_bet((2, 2, 2), RINGED).clear()
        self.assertEqual(pays(ring_bet((2, 2, 2), RINGED), ring_habit((2, 2, 2), RINGED)), (3, 2))

    def test_wrong_sizes(self):
        for call in (ring_habit, ring_bet):
            for sizes in strangers() + [(), (1,), (5,), (4, 4, 4, 4, 2), [2, 2, 2], (True, 2, 2)]:
                for ring in (RINGED, None):
                    with self.assertRaises(BadSizes):
                        call(sizes, ring)

    def test_wrong_rings(self):
        rs, cs = RINGED
        wrong = strangers() + [
            (), rs, cs, (rs,), (rs, cs, ()), [rs, cs], (list(rs), cs), (rs, list(cs)), (cs, rs), (rs[:2], cs[:2]),
            ((), ()), (rs, (0, 1, 2)), (rs, (1, 2)), (rs, (1, 2, 2)), (rs, (True, 2, False)), (rs + rs, cs + cs),
            (((0, 1), (1, 2), (0, 2, 3)), cs), (((0, 1), (1, 2), (0, 1, 2)), cs), (((0, 1), (1, 2), (2, 0)), cs),
            (((0, 1), (1, 2), (0, 1)), cs), (((0, 1), (1, 2), [0, 2]), cs), (((0, 1), (1, 2), None), cs),
            (((0, True), (1, 2), (0, 2)), cs), (rs, (1, 2, -3)), (rs, (1, 2, 3)), (rs, (1, 2, None)), (rs, "120"),
            FOUR, FIVE, (rs, (1, 2, 10 ** 59)), (rs, (1, 2, deep_list(38))), (deep_tuple(39), deep_tuple(39))]
        for call in (ring_habit, ring_bet):
            for ring in wrong:
                with self.assertRaises(NoRing):
                    call((2, 2, 2), ring)
            for sizes in [(2,), (2, 2), (4, 4)]:
                with self.assertRaises(NoRing):
                    call(sizes, RINGED)
            # The last pattern is ALL of three columns, but a part of four.
            told = (((0, 1), (1, 3), (0, 2, 3)), (1, 3, 0))
            call((2, 2, 2, 2), told)
            told = (((0, 1, 3), (1, 2, 3), (0, 1, 2, 3)), (1, 2, 0))
            with self.assertRaises(NoRing):
                call((2, 2, 2, 2), told)


if __name__ == "__main__":
    unittest.main()
