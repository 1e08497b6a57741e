import random
import unittest
from fractions import Fraction
from itertools import permutations

from fairmasks.errors import NeverShown, NoBox, NoChances, NoColumns, NoContent, NoRules, NoShare, OtherSizes
from fairmasks.habits import Habit, habit_of, is_fair, patterns, share, unfair
from fairmasks.sharing import hidden_again, mixed, renamed, share_behind, share_struck, wrong_share
from makers import (SIZES, all_boxes, all_contents, all_patterns, at, even_chances, is_in, pair, random_chances,
                    random_fair, random_habit, random_row, whole)
from samples import deep_dict, deep_list, deep_tuple, small_habit, strangers

HALF = (1, 2)
# (0, 0) and (0, 1) are shown in column 0 alone, the others in column 1 alone.
UNFAIR = Habit((2, 2), ((((0,), (1, 1)),), (((0,), (1, 1)),), (((1,), (1, 1)),), (((1,), (1, 1)),)))
CHANCES = ((1, 2), (1, 4), (1, 8), (1, 8))


def behind(habit, chances, box, content):
    """The share behind by the words of the document, or None if the box is never shown."""
    shown = {c: Fraction(*chance) * Fraction(*share(habit, box[0], c))
             for c, chance in zip(all_contents(habit.sizes), chances) if is_in(c, box)}
    return shown.get(content, Fraction(0)) / sum(shown.values()) if sum(shown.values()) else None


def struck(habit, chances, box, content):
    held = {c: Fraction(*chance) for c, chance in zip(all_contents(habit.sizes), chances) if is_in(c, box)}
    return held.get(content, Fraction(0)) / sum(held.values())


def least_wrong(habit, chances):
    for box in all_boxes(habit.sizes):
        for content in all_contents(habit.sizes):
            told = behind(habit, chances, box, content)
            if told is not None and told != struck(habit, chances, box, content):
                return (box, content)
    return None


class Shares(unittest.TestCase):
    def test_ordinary_ones(self):
        box = ((1,), (0,))
        self.assertEqual(share_behind(UNFAIR, CHANCES, box, (1, 0)), (1, 1))
        self.assertEqual(share_behind(UNFAIR, CHANCES, box, (0, 0)), (0, 1))
        self.assertEqual(share_struck(UNFAIR, CHANCES, box, (1, 0)), (1, 5))
        self.assertEqual(share_struck(UNFAIR, CHANCES, box, (0, 0)), (4, 5))
        self.assertEqual(share_behind(UNFAIR, CHANCES, ((0,), (0,)), (0, 0)), (2, 3))
        self.assertEqual(share_struck(UNFAIR, CHANCES, ((0,), (0,)), (0, 0)), (2, 3))

    def test_contents_outside_of_the_box_have_none(self):
        for call in (share_behind, share_struck):
            self.assertEqual(call(UNFAIR, CHANCES, ((0,), (0,)), (1, 0)), (0, 1))
            self.assertEqual(call(whole((2, 2)), CHANCES, ((0, 1), (0, 0)), (0, 1)), (0, 1))
            self.assertEqual(call(whole((2, 2)), CHANCES, ((0, 1), (0, 0)), (0, 0)), (1, 1))

    def test_the_empty_pattern(self):
        habit = Habit((2,), ((((), HALF), ((0,), HALF)), (((0,), (1, 1)),)))
        self.assertEqual(share_behind(habit, ((1, 3), (2, 3)), ((), ()), (0,)), (1, 1))
        self.assertEqual(share_struck(habit, ((1, 3), (2, 3)), ((), ()), (1,)), (2, 3))

    def test_by_the_words_of_the_document(self):
        chance = random.Random(1)
        for _ in range(80):
            sizes = chance.choice(SIZES)
            habit, chances = random_habit(sizes, chance), random_chances(sizes, chance)
            for box in all_boxes(sizes):
                for content in chance.sample(all_contents(sizes), 2):
                    told = behind(habit, chances, box, content)
                    if told is None:
                        for call in (share_behind, share_struck):
                            with self.assertRaises(NeverShown):
                                call(habit, chances, box, content)
                    else:
                        self.assertEqual(share_behind(habit, chances, box, content), pair(told))
                        self.assertEqual(share_struck(habit, chances, box, content),
                                         pair(struck(habit, chances, box, content)))

    def test_one_and_five_columns(self):
        self.assertEqual(share_behind(small_habit(), ((1, 3), (2, 3)), ((0,), (1,)), (1,)), (1, 1))
        sizes = (2, 2, 2, 2, 2)
        habit = habit_of(sizes, {((0, 4), (1, 1)): HALF})
        self.assertEqual(share_behind(habit, even_chances(sizes), ((0, 4), (1, 1)), (1, 0, 0, 0, 1)), (1, 8))
        self.assertEqual(share_struck(habit, even_chances(sizes), ((0, 4), (1, 1)), (1, 0, 0, 0, 0)), (0, 1))

    def test_never_shown(self):
        for call in (share_behind, share_struck):
            for box in [((), ()), ((0,), (1,)), ((0, 1), (0, 0))]:
                with self.assertRaises(NeverShown):
                    call(UNFAIR, CHANCES, box, (0, 0))
            # The pattern is shown at times, but not in this box.
            with self.assertRaises(NeverShown):
                call(habit_of((2, 2), {((0,), (0,)): HALF}), CHANCES, ((0,), (1,)), (1, 0))

    def test_wrong_chances(self):
        great = 10 ** 59
        wrong = [(HALF, HALF), ((1, 4),) * 3, ((1, 4),) * 5, [(1, 4)] * 4, ((1, 4), (1, 4), (1, 4), (1, 5)),
                 ((1, 4), (1, 4), (1, 4), (1, 3)), (HALF, HALF, (0, 1), (0, 1)), ((1, 1), (1, 1), (-1, 2), (-1, 2)),
                 ((2, 8), (1, 4), (1, 4), (1, 4)), ((1, 4), (1, 4), (1, 4), [1, 4]), (1, 4), ((1, 4), (1, 4), HALF),
                 ((1, 4), (1, 4), (1, 4), None), ((1, 4), (1, 4), (1, 4), (True, 4)), ((1, 4),) * 3 + ((1, 4, 0),),
                 (True, False, False, False), (0, 0, 0, 1), "abcd", b"abcd", {0: (1, 4), 1: (1, 4)}, range(4),
                 ((1, great), (1, 4), (1, 4), (1, 4)), (deep_tuple(39),) * 4, (deep_list(39),) * 4]
        for thing in strangers() + wrong:
            for call in (lambda: share_behind(UNFAIR, thing, ((0,), (0,)), (0, 0)),
                         lambda: share_struck(UNFAIR, thing, ((0,), (0,)), (0, 0)),
                         lambda: wrong_share(UNFAIR, thing)):
                with self.assertRaises(NoChances):
                    call()

    def test_a_share_for_one_content_is_no_chance_but_1(self):
        for thing in [(HALF, HALF), ((1, 3), (2, 3)), ((1, 10 ** 59), (10 ** 59 - 1, 10 ** 59))]:
            self.assertIsNone(wrong_share(small_habit(), thing))
        for thing in [((1, 1), (0, 1)), ((1, 2), (1, 3)), ((3, 2), (-1, 2))]:
            with self.assertRaises(NoChances):
                wrong_share(small_habit(), thing)

    def test_wrong_boxes_and_contents(self):
        for call in (share_behind, share_struck):
            for box in strangers() + [((2,), (0,)), ((0,), (2,)), ((0,), ()), ((1, 0), (0, 0)), [(0,), (0,)], (0,),
                                      ((True,), (0,)), ((0,), (False,)), ((0,), (0,), ()), "00", None]:
                with self.assertRaises(NoBox):
                    call(UNFAIR, CHANCES, box, (0, 0))
            for content in strangers() + [(), (0,), (0, 2), (0, 0, 0), (0, True), [0, 0], ((0,), (0,))]:
                with self.assertRaises(NoContent):
                    call(UNFAIR, CHANCES, ((0,), (0,)), content)

    def test_the_first_wrong_argument_is_named(self):
        for call in (share_behind, share_struck):
            with self.assertRaises(NoChances):
                call(UNFAIR, None, None, None)
            with self.assertRaises(NoBox):
                call(UNFAIR, CHANCES, None, None)
            with self.assertRaises(NoContent):
                call(UNFAIR, CHANCES, ((), ()), None)
            with self.assertRaises(NeverShown):
                call(UNFAIR, CHANCES, ((), ()), (0, 0))


class Wrong(unittest.TestCase):
    def test_an_ordinary_one(self):
        self.assertEqual(wrong_share(UNFAIR, CHANCES), (((1,), (0,)), (0, 0)))
        self.assertIsNone(wrong_share(whole((2, 2)), CHANCES))

    def test_boxes_that_are_never_shown_are_left_out(self):
        # The only unlike box is the one of worth 1.
        habit = Habit((2, 2), ((((0, 1), (1, 1)),), (((0,), HALF), ((0, 1), HALF)),
                               (((0, 1), (1, 1)),), (((0, 1), (1, 1)),)))
        self.assertEqual(wrong_share(habit, CHANCES), (((0,), (0,)), (0, 0)))

    def test_the_least_content_may_be_behind_ones_that_are_alike(self):
        # The mean of the box is that of its first content.
        rows = [(((), HALF), ((0,), HALF)), (((), (1, 3)), ((0,), (2, 3))), (((), (2, 3)), ((0,), (1, 3)))]
        self.assertEqual(wrong_share(Habit((3,), tuple(rows)), ((1, 3),) * 3), (((), ()), (1,)))

    def test_the_first_fact(self):
        chance = random.Random(2)
        seen = {True: 0, False: 0}
        for _ in range(150):
            sizes = chance.choice(SIZES)
            habit = chance.choice([random_habit, random_habit, random_fair])(sizes, chance)
            for chances in (even_chances(sizes), random_chances(sizes, chance)):
                found = wrong_share(habit, chances)
                self.assertEqual(found, least_wrong(habit, chances))
                self.assertIs(found is None, is_fair(habit))
                seen[is_fair(habit)] += 1
        self.assertGreater(min(seen.values()), 50)

    def test_great_sizes_with_many_digits(self):
        sizes = (4, 4, 4, 2, 2)
        parts = [Fraction(1, 10 ** 58 + k) for k in range(255)]
        chances = tuple(pair(part) for part in parts) + (pair(1 - sum(parts)),)
        self.assertIsNone(wrong_share(whole(sizes), chances))
        rows = whole(sizes).rows[:-1] + ((((0,), (1, 1)),),)
        self.assertEqual(wrong_share(Habit(sizes, rows), chances), (((0,), (3,)), (3, 0, 0, 0, 0)))


class Mixed(unittest.TestCase):
    def test_ordinary_ones(self):
        habit = mixed(UNFAIR, whole((2, 2)), (1, 3))
        self.assertEqual(habit.rows[0], (((0,), (1, 3)), ((0, 1), (2, 3))))
        self.assertEqual(habit.rows[2], (((0, 1), (2, 3)), ((1,), (1, 3))))
        self.assertEqual(mixed(whole((2,)), habit_of((2,), {((), ()): HALF}), (1, 5)),
                         habit_of((2,), {((), ()): (2, 5)}))

    def test_all_and_nothing_of_one(self):
        self.assertEqual(mixed(UNFAIR, whole((2, 2)), (1, 1)), UNFAIR)
        self.assertEqual(mixed(UNFAIR, whole((2, 2)), (0, 1)), whole((2, 2)))

    def test_by_the_words_of_the_document(self):
        chance = random.Random(3)
        for _ in range(60):
            sizes = chance.choice(SIZES + [(2, 2, 2, 2, 2)])
            one, other = random_habit(sizes, chance), random_fair(sizes, chance)
            part = Fraction(chance.randint(0, 5), 5)
            found = mixed(one, other, pair(part))
            for content in all_contents(sizes):
                for pattern in all_patterns(len(sizes)):
                    told = (part * Fraction(*share(one, pattern, content))
                            + (1 - part) * Fraction(*share(other, pattern, content)))
                    self.assertEqual(share(found, pattern, content), pair(told))

    def test_unlike_sizes(self):
        for other in [whole((4,)), whole((2,)), whole((2, 2, 2)), whole((2, 3)), small_habit()]:
            for part in [HALF, None, (2, 1)]:
                with self.assertRaises(OtherSizes):
                    mixed(UNFAIR, other, part)
        for other in [None, True, 1, "", b"", (), [], {}, (2, 2), deep_tuple(40), deep_dict(40), Habit]:
            with self.assertRaises(OtherSizes):
                mixed(UNFAIR, other, HALF)

    def test_wrong_shares(self):
        for part in strangers() + [(2, 1), (3, 2), (-1, 2), (2, 4), (0, 2), (1, 0), (True, 1), (0, True), [1, 2], 1]:
            with self.assertRaises(NoShare):
                mixed(UNFAIR, whole((2, 2)), part)


class Hidden(unittest.TestCase):
    def setUp(self):
        self.keep = {pattern: ((pattern, (1, 1)),) for pattern in patterns(UNFAIR)}

    def test_ordinary_ones(self):
        self.assertEqual(hidden_again(UNFAIR, self.keep), UNFAIR)
        rules = {**self.keep, (0,): (((), (1, 4)), ((0,), (3, 4)))}
        found = hidden_again(UNFAIR, rules)
        self.assertEqual(found.rows, ((((), (1, 4)), ((0,), (3, 4))),) * 2 + UNFAIR.rows[2:])

    def test_shares_of_one_pattern_add_up(self):
        habit = habit_of((2, 2), {((0,), (0,)): HALF})
        found = hidden_again(habit, {(0,): (((), (1, 1)),), (0, 1): (((), (1, 3)), ((0, 1), (2, 3)))})
        self.assertEqual(found.rows[0], (((), (2, 3)), ((0, 1), (1, 3))))
        self.assertEqual(found.rows[3], (((), (1, 3)), ((0, 1), (2, 3))))

    def test_it_may_spoil_fairness(self):
        habit = habit_of((2, 2), {((0,), (0,)): (1, 1)})
        found = hidden_again(habit, {(0,): (((), (1, 1)),), (0, 1): (((0, 1), (1, 1)),)})
        self.assertEqual(unfair(found), ((), (0, 0), (1, 0)))

    def test_by_the_words_of_the_document(self):
        chance = random.Random(4)
        for _ in range(80):
            sizes = chance.choice(SIZES + [(2, 2, 2, 2, 2)])
            habit = chance.choice([random_habit, random_fair])(sizes, chance)
            rules = {}
            for pattern in patterns(habit):
                inner = [p for p in all_patterns(len(sizes)) if set(p) <= set(pattern)]
                rules[pattern] = random_row(inner, chance)
            found = hidden_again(habit, rules)
            for content in chance.sample(all_contents(sizes), 2):
                for pattern in all_patterns(len(sizes)):
                    told = sum(Fraction(*part) * Fraction(*dict(rules[shown]).get(pattern, (0, 1)))
                               for shown, part in habit.rows[all_contents(sizes).index(content)])
                    self.assertEqual(share(found, pattern, content), pair(told))

    def test_the_keys_are_just_all_patterns(self):
        # ALL is one of them, though it is never shown here.
        self.assertEqual(patterns(UNFAIR), ((0,), (0, 1), (1,)))
        for pattern in patterns(UNFAIR):
            self.assert_wrong({key: row for key, row in self.keep.items() if key != pattern})
        self.assert_wrong({**self.keep, (): (((), (1, 1)),)})
        self.assert_wrong({**self.keep, "a": (((), (1, 1)),)})
        self.assert_wrong({**self.keep, None: None})
        self.assert_wrong({})
        for key in [(), "0", None, 0, b"0", (2,), (0, 0), ((0,),), int, deep_tuple(38)]:
            self.assert_wrong({key: self.keep[(0,)], (0, 1): self.keep[(0, 1)], (1,): self.keep[(1,)]})

    def test_wrong_rows(self):
        for row in strangers() + [
                (), [((0,), (1, 1))], (((0,), HALF),), (((0,), (1, 1)), ((1,), (1, 1))), (((0,), (3, 2)),),
                (((0,), HALF), ((), HALF)), (((), HALF), ((), HALF)), (((), (0, 1)), ((0,), (1, 1))),
                (((), (-1, 2)), ((0,), (3, 2))), (((0,), (2, 2)),), (((0,), 1),), (((0,), [1, 1]),),
                (((0,), (True, 1)),), (((False,), (1, 1)),), (([0], (1, 1)),), (((0,), (1, 1), 0),), ((0,), (1, 1)),
                (((), (1, 3)), ((0,), (1, 3))), (deep_tuple(38),), (deep_list(38),)]:
            self.assert_wrong({**self.keep, (0,): row})

    def test_patterns_lie_within_the_one_that_was_shown(self):
        for row in [(((1,), (1, 1)),), (((0, 1), (1, 1)),), (((), HALF), ((1,), HALF)), (((0,), HALF), ((0, 1), HALF))]:
            self.assert_wrong({**self.keep, (0,): row})
            self.assertEqual(hidden_again(UNFAIR, {**self.keep, (0, 1): row}), UNFAIR)

    def test_no_dicts(self):
        for thing in strangers() + [tuple(self.keep.items()), list(self.keep.items()), patterns(UNFAIR), UNFAIR]:
            self.assert_wrong(thing)

    def test_the_order_of_keys_means_nothing_and_the_dict_is_kept(self):
        rules = {(1,): (((), (1, 1)),), (0, 1): (((0,), (1, 1)),), (0,): (((0,), (1, 1)),)}
        turned = {key: rules[key] for key in reversed(list(rules))}
        self.assertEqual(hidden_again(UNFAIR, rules), hidden_again(UNFAIR, turned))
        self.assertEqual(rules, turned)

    def assert_wrong(self, rules):
        with self.assertRaises(NoRules):
            hidden_again(UNFAIR, rules)


class Renamed(unittest.TestCase):
    def test_ordinary_ones(self):
        self.assertEqual(renamed(UNFAIR, (0, 1)), UNFAIR)
        cell, other = (((1,), (1, 1)),), (((0,), (1, 1)),)
        self.assertEqual(renamed(UNFAIR, (1, 0)), Habit((2, 2), (cell, other, cell, other)))

    def test_sizes_go_along(self):
        self.assertEqual(renamed(whole((2, 3, 4)), (2, 0, 1)), whole((4, 2, 3)))
        habit = habit_of((2, 3, 4), {((1, 2), (2, 3)): HALF})
        self.assertEqual(renamed(habit, (2, 0, 1)), habit_of((4, 2, 3), {((0, 2), (3, 2)): HALF}))

    def test_rows_ascend_anew(self):
        habit = Habit((2, 2), ((((0,), HALF), ((1,), HALF)),) * 4)
        self.assertEqual(renamed(habit, (1, 0)), habit)

    def test_by_the_words_of_the_document(self):
        chance = random.Random(5)
        for _ in range(40):
            sizes = chance.choice([(2,), (2, 3), (2, 3, 4), (2, 2, 3, 2), (2, 2, 2, 2, 2)])
            habit = random_habit(sizes, chance)
            columns = chance.choice(list(permutations(range(len(sizes)))))
            found = renamed(habit, columns)
            self.assertEqual(found.sizes, at(columns, sizes))
            self.assertEqual(is_fair(found), is_fair(habit))
            for content in all_contents(sizes):
                for pattern in all_patterns(len(sizes)):
                    new = tuple(k for k, column in enumerate(columns) if column in pattern)
                    self.assertEqual(share(found, new, at(columns, content)), share(habit, pattern, content))
            back = tuple(columns.index(k) for k in range(len(columns)))
            self.assertEqual(renamed(found, back), habit)

    def test_wrong_columns(self):
        for columns in [thing for thing in strangers() if thing != (0, 1)] + [
                (), (0,), (1,), (0, 0), (1, 1), (0, 2), (0, 1, 2), (0, 1, 1), [0, 1], [1, 0], "01", {0: 1, 1: 0},
                range(2), (True, 0), (False, 1), (0, True), (0, None), (0, "1"), (-1, 0), (0, -1), ((0,), (1,)), None,
                (0, deep_tuple(39)), (10 ** 59, 0)]:
            with self.assertRaises(NoColumns):
                renamed(UNFAIR, columns)
        with self.assertRaises(NoColumns):
            renamed(small_habit(), (0, 1))


if __name__ == "__main__":
    unittest.main()
