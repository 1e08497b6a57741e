import random
import unittest
from fractions import Fraction

from fairmasks.askers import Asker, asker_habit, coming, opened
from fairmasks.errors import BadAsker, NoBox, NoChances
from fairmasks.habits import Habit, habit_of, is_fair, share
from makers import (ROOT, SIZES, all_boxes, all_contents, all_patterns, at, even_chances, is_in, pair, random_asker,
                    random_chances, whole, wider)
from samples import deep_dict, deep_list, deep_tuple, small_habit, strangers

HALF = (1, 2)
STOP = ((-1, (1, 1)),)
# Opens column 0 of half the rows, and behind it column 1 if it finds a 1 there.
MOVES = {ROOT: ((-1, HALF), (0, HALF)), ((0,), (0,)): STOP, ((0,), (1,)): ((1, (1, 1)),),
         ((0, 1), (1, 0)): STOP, ((0, 1), (1, 1)): STOP}


def opens_all(sizes):
    """The asker that opens all columns ascending."""
    moves = {}
    stands = [ROOT]
    for column in range(len(sizes)):
        for stand in stands:
            moves[stand] = ((column, (1, 1)),)
        stands = [box for stand in stands for box in wider(sizes, stand, column)]
    for stand in stands:
        moves[stand] = STOP
    return Asker(sizes, moves)


def ways(asker, content):
    """The list of (open pattern, share) with which an asker stops."""
    found = []
    left = [((), Fraction(1))]
    while left:
        pattern, part = left.pop()
        for column, share_of_move in asker.moves[(pattern, at(pattern, content))]:
            if column == -1:
                found.append((pattern, part * Fraction(*share_of_move)))
            else:
                left.append((tuple(sorted(pattern + (column,))), part * Fraction(*share_of_move)))
    return found


class Making(unittest.TestCase):
    def assert_bad(self, part, sizes, moves):
        with self.assertRaises(BadAsker) as caught:
            Asker(sizes, moves)
        self.assertEqual(caught.exception.part, part)

    def test_attributes(self):
        asker = Asker((2, 2), MOVES)
        self.assertEqual(asker.sizes, (2, 2))
        self.assertEqual(asker.moves, MOVES)
        self.assertIs(type(asker.moves), dict)

    def test_one_that_opens_nothing_and_one_that_opens_all(self):
        for sizes in SIZES + [(2, 2, 2, 2, 2), (4, 4, 4, 4)]:
            self.assertEqual(Asker(sizes, {ROOT: STOP}).moves, {ROOT: STOP})
            asker = opens_all(sizes)
            self.assertEqual(Asker(sizes, asker.moves), asker)

    def test_the_dict_is_copied_and_not_changed(self):
        moves = dict(MOVES)
        asker = Asker((2, 2), moves)
        self.assertEqual(moves, MOVES)
        moves.clear()
        self.assertEqual(asker.moves, MOVES)
        moves = dict(MOVES)
        asker = Asker((2, 2), moves)
        moves[ROOT] = STOP
        moves[((1,), (0,))] = STOP
        self.assertEqual(asker.moves, MOVES)

    def test_wrong_sizes(self):
        for sizes in strangers() + [(), (1,), (5,), (2, 2, 2, 2, 2, 2), (4, 4, 4, 4, 2), (True, 2), [2, 2]]:
            for moves in [{ROOT: STOP}, None, {}]:
                self.assert_bad("sizes", sizes, moves)

    def test_wrong_moves(self):
        for moves in strangers() + [(), {}, ((ROOT, STOP),), [ROOT], {ROOT[0]: STOP}, Asker((2, 2), MOVES), Asker]:
            self.assert_bad("moves", (2, 2), moves)
        for key in [((2,), (0,)), ((0,), (2,)), ((0,), ()), ((1, 0), (0, 0)), (), (0,), 0, None, "", b"", int,
                    ((0,), (0,), ()), deep_tuple(39), ("0", (0,)), ((0,), "0"), BadAsker, Ellipsis]:
            self.assert_bad("moves", (2, 2), {**MOVES, key: STOP})
            self.assert_bad("moves", (2, 2), {key: None, ROOT: None})
        lacking = dict(MOVES)
        del lacking[ROOT]
        self.assert_bad("moves", (2, 2), lacking)

    def test_wrong_moves_at_a_stand(self):
        for move in strangers() + [
                (), [(-1, (1, 1))], ((-1, HALF),), ((-1, HALF), (1, (1, 3))), ((-1, HALF), (1, HALF), (1, HALF)),
                ((1, HALF), (-1, HALF)), ((-1, HALF), (-1, HALF)), ((1, HALF), (1, HALF)), ((0, (1, 1)),),
                ((0, HALF), (1, HALF)), ((2, (1, 1)),), ((-2, (1, 1)),), ((True, (1, 1)),), ((None, (1, 1)),),
                (("1", (1, 1)),), ((1, (0, 1)),), ((-1, (0, 1)), (1, (1, 1))), ((-1, (1, 1)), (1, (0, 1))),
                ((-1, (3, 2)), (1, (-1, 2))), ((-1, (2, 2)),), ((-1, 1),), ((-1, [1, 1]),), ([-1, (1, 1)],),
                ((-1, (1, 1), 0),), ((-1,),), (-1, (1, 1)), ((-1, (True, 1)),), ((-1, (1, True)),), "ab", {-1: (1, 1)},
                ((deep_tuple(37), (1, 1)),), ((-1, deep_tuple(37)),), ((deep_list(37), deep_dict(37)),),
                ((10 ** 59, (1, 1)),)]:
            self.assert_bad(((0,), (1,)), (2, 2), {**MOVES, ((0,), (1,)): move})
            self.assert_bad(((0,), (0,)), (2, 2), {**MOVES, ((0,), (0,)): move})

    def test_wrong_moves_at_the_first_stand(self):
        for move in strangers() + [(), ((2, (1, 1)),), ((-1, HALF),), [(-1, (1, 1))], ((0, HALF), (-1, HALF))]:
            self.assert_bad(ROOT, (2, 2), {**MOVES, ROOT: move})

    def test_moves_where_all_is_open(self):
        for move in [((0, (1, 1)),), ((-1, HALF), (0, HALF)), ((2, (1, 1)),), (), ((-1, HALF),)]:
            self.assert_bad(((0, 1), (1, 1)), (2, 2), {**MOVES, ((0, 1), (1, 1)): move})

    def test_a_stand_that_is_lacking(self):
        for stand in MOVES:
            if stand != ROOT:
                self.assert_bad(stand, (2, 2), {key: move for key, move in MOVES.items() if key != stand})
        self.assert_bad(((1,), (2,)), (2, 3), {ROOT: ((1, (1, 1)),), ((1,), (0,)): STOP, ((1,), (1,)): STOP})

    def test_a_stand_that_does_not_come(self):
        for stand in all_boxes((2, 2)):
            if stand not in MOVES:
                self.assert_bad(stand, (2, 2), {**MOVES, stand: STOP})
                self.assert_bad(stand, (2, 2), {**MOVES, stand: None})

    def test_the_least_stand_is_named(self):
        # By the number of open columns, though ((0, 1), (1, 1)) is less than ((1,), (0,)).
        self.assert_bad(((1,), (0,)), (2, 2), {**MOVES, ((0, 1), (1, 1)): None, ((1,), (0,)): STOP})
        self.assert_bad(((0,), (1,)), (2, 2), {**MOVES, ((0,), (1,)): None, ((1,), (0,)): STOP})
        self.assert_bad(((0,), (0,)), (2, 2), {ROOT: MOVES[ROOT], ((1,), (0,)): STOP, ((0,), (1,)): None})
        self.assert_bad(((0, 1), (0, 1)), (2, 2), {**MOVES, ((0, 1), (0, 1)): STOP, ((0, 1), (1, 0)): None})
        self.assert_bad(ROOT, (2, 2), {**MOVES, ROOT: None, ((1,), (0,)): STOP})
        two = {ROOT: STOP, ((1,), (1,)): STOP, ((0, 2), (0, 0)): STOP, ((0, 1, 2), (0, 0, 0)): STOP}
        self.assert_bad(((1,), (1,)), (2, 2, 2), two)

    def test_what_would_come_by_wrong_moves_is_not_asked_for(self):
        # Column 0 is opened with the share 0: the moves are wrong, not the stands behind them.
        self.assert_bad(ROOT, (2, 2), {ROOT: ((-1, (1, 1)), (0, (0, 1)))})

    def test_the_least_of_all_wrong_stands(self):
        chance = random.Random(1)
        for _ in range(200):
            sizes = chance.choice(SIZES)
            moves = dict(random_asker(sizes, chance).moves)
            wrong = []
            for box in chance.sample(all_boxes(sizes), min(3, len(all_boxes(sizes)))):
                if box not in moves:
                    moves[box] = STOP
                    wrong.append(box)
                elif moves[box] == STOP:
                    moves[box] = chance.choice([None, ((-1, HALF),), ((box[0][0] if box[0] else 9, (1, 1)),)])
                    wrong.append(box)
            if wrong:
                self.assert_bad(min(wrong, key=lambda box: (len(box[0]), box)), sizes, moves)
            else:
                Asker(sizes, moves)

    def test_shares_of_many_digits(self):
        great = 10 ** 59
        moves = {**MOVES, ROOT: ((-1, (1, great)), (0, (great - 1, great)))}
        self.assertEqual(Asker((2, 2), moves).moves, moves)
        self.assert_bad(ROOT, (2, 2), {**MOVES, ROOT: ((-1, (1, great)), (0, (great - 3, great)))})


class Equality(unittest.TestCase):
    def test_equal_if_sizes_and_moves_are(self):
        turned = {stand: MOVES[stand] for stand in reversed(list(MOVES))}
        self.assertIs(Asker((2, 2), MOVES) == Asker((2, 2), turned), True)
        self.assertIs(Asker((2, 2), MOVES) != Asker((2, 2), turned), False)
        self.assertIs(Asker((2, 2), {ROOT: STOP}) == Asker((2, 3), {ROOT: STOP}), False)
        self.assertIs(Asker((2, 2), {ROOT: STOP}) == Asker((2, 2), MOVES), False)

    def test_equal_to_nothing_else(self):
        asker = Asker((2, 2), {ROOT: STOP})
        for thing in strangers() + [asker.moves, ((2, 2), asker.moves), (2, 2)]:
            self.assertIs(asker == thing, False)
            self.assertIs(thing == asker, False)
            self.assertIs(asker != thing, True)

    def test_equal_to_nothing_of_a_class_with_the_same_attributes(self):
        class Other:
            sizes = (2, 2)
            moves = {ROOT: STOP}
        self.assertIs(Asker((2, 2), {ROOT: STOP}) == Other(), False)


class Coming(unittest.TestCase):
    def test_ordinary_ones(self):
        asker = Asker((2, 2), MOVES)
        self.assertEqual(coming(asker, ROOT), (1, 1))
        self.assertEqual(coming(asker, ((0,), (1,))), HALF)
        self.assertEqual(coming(asker, ((0, 1), (1, 0))), HALF)

    def test_a_stand_that_never_comes(self):
        asker = Asker((2, 2), MOVES)
        for stand in all_boxes((2, 2)):
            if stand not in MOVES:
                self.assertEqual(coming(asker, stand), (0, 1))
        self.assertEqual(coming(Asker((2,), {ROOT: STOP}), ((0,), (1,))), (0, 1))

    def test_ways_to_a_stand_add_up(self):
        moves = {ROOT: ((0, (1, 3)), (1, (2, 3)))}
        for stand in [box for box in all_boxes((2, 2)) if box[0]]:
            moves[stand] = STOP
        moves[((0,), (0,))] = ((-1, (1, 4)), (1, (3, 4)))
        moves[((1,), (1,))] = ((0, (1, 1)),)
        asker = Asker((2, 2), {stand: move for stand, move in moves.items() if stand != ((0, 1), (1, 0))})
        self.assertEqual(coming(asker, ((0, 1), (0, 0))), (1, 4))
        self.assertEqual(coming(asker, ((0, 1), (0, 1))), (11, 12))
        self.assertEqual(coming(asker, ((0, 1), (1, 1))), (2, 3))
        self.assertEqual(coming(asker, ((0, 1), (1, 0))), (0, 1))

    def test_it_hangs_on_the_open_worths_alone(self):
        chance = random.Random(2)
        for _ in range(60):
            sizes = chance.choice(SIZES)
            asker = random_asker(sizes, chance)
            for box in all_boxes(sizes):
                told = set()
                for content in [content for content in all_contents(sizes) if is_in(content, box)]:
                    # What comes to a stand: all ways that open just its columns first.
                    part = {(): Fraction(1)}
                    for pattern in sorted(all_patterns(len(sizes)), key=len):
                        for column, of_move in asker.moves.get((pattern, at(pattern, content)), ()):
                            further = tuple(sorted(pattern + (column,)))
                            if column != -1 and pattern in part:
                                part[further] = part.get(further, 0) + part[pattern] * Fraction(*of_move)
                    told.add(part.get(box[0], Fraction(0)))
                self.assertEqual([pair(value) for value in told], [coming(asker, box)])

    def test_wrong_stands(self):
        asker = Asker((2, 2), MOVES)
        for stand in strangers() + [((2,), (0,)), ((0,), (2,)), ((0,), ()), ((1, 0), (0, 0)), [(), ()], (), (0,), None,
                                    ((True,), (0,)), ((0,), (False,)), ((0,), (0,), ()), "00", {}]:
            with self.assertRaises(NoBox):
                coming(asker, stand)


class Habits(unittest.TestCase):
    def test_ordinary_ones(self):
        self.assertEqual(asker_habit(Asker((2, 2), MOVES)),
                         habit_of((2, 2), {((), ()): HALF, ((0,), (0,)): HALF}))

    def test_one_that_opens_nothing_and_one_that_opens_all(self):
        for sizes in SIZES + [(2, 2, 2, 2, 2), (4, 4, 4, 4)]:
            many = len(all_contents(sizes))
            self.assertEqual(asker_habit(Asker(sizes, {ROOT: STOP})), Habit(sizes, ((((), (1, 1)),),) * many))
            self.assertEqual(asker_habit(opens_all(sizes)), whole(sizes))

    def test_by_the_words_of_the_document(self):
        chance = random.Random(3)
        for _ in range(80):
            sizes = chance.choice(SIZES + [(2, 2, 2, 2)])
            asker = random_asker(sizes, chance)
            habit = asker_habit(asker)
            self.assertIs(is_fair(habit), True)
            for content in all_contents(sizes):
                told = {}
                for pattern, part in ways(asker, content):
                    told[pattern] = told.get(pattern, 0) + part
                for pattern in all_patterns(len(sizes)):
                    self.assertEqual(share(habit, pattern, content), pair(told.get(pattern, 0)))

    def test_five_columns(self):
        asker = random_asker((4, 4, 4, 2, 2), random.Random(4), 6)
        self.assertIs(is_fair(asker_habit(asker)), True)


class Opened(unittest.TestCase):
    def test_ordinary_ones(self):
        self.assertEqual(opened(Asker((2, 2), MOVES), even_chances((2, 2))), (3, 4))
        self.assertEqual(opened(Asker((2, 2), MOVES), ((1, 10), (1, 10), (1, 10), (7, 10))), (9, 10))

    def test_one_that_opens_nothing_and_one_that_opens_all(self):
        for sizes in SIZES + [(2, 2, 2, 2, 2)]:
            self.assertEqual(opened(Asker(sizes, {ROOT: STOP}), even_chances(sizes)), (0, 1))
            self.assertEqual(opened(opens_all(sizes), even_chances(sizes)), (len(sizes), 1))

    def test_by_the_words_of_the_document(self):
        chance = random.Random(5)
        for _ in range(60):
            sizes = chance.choice(SIZES)
            asker, chances = random_asker(sizes, chance), random_chances(sizes, chance)
            told = 0
            for content, came in zip(all_contents(sizes), chances):
                told += sum(Fraction(*came) * part * len(pattern) for pattern, part in ways(asker, content))
            self.assertEqual(opened(asker, chances), pair(told))

    def test_wrong_chances(self):
        for thing in strangers() + [((1, 4),) * 3, [(1, 4)] * 4, ((1, 2), (1, 2), (0, 1), (0, 1)), ((1, 4),) * 5,
                                    ((1, 4), (1, 4), (1, 4), (1, 5)), ((2, 8),) * 4, None, (), small_habit()]:
            with self.assertRaises(NoChances):
                opened(Asker((2, 2), MOVES), thing)


if __name__ == "__main__":
    unittest.main()
