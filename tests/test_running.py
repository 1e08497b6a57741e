import random
import unittest
from fractions import Fraction

from fairmasks.errors import NoChances, NoContent, NoThrows, OtherSizes, TooMany
from fairmasks.habits import Habit, habit_of, is_fair, unfair
from fairmasks.programs import Program
from fairmasks.running import alike, habit_by, is_blind, peeks, run
from makers import (SIZES, all_contents, all_runs, even_chances, habit_of_runs, is_blind_by_runs, pair,
                    random_chances, random_program, same_as_run, whole)
from samples import deep_dict, deep_list, deep_tuple, small_habit, strangers

A_IS = [("name", "a", value) for value in range(12)]
EMPTY = Program((2, 2), ())


def throws(*many):
    """Throws with so many ends, each in a name of its own, so that no two runs stand at one."""
    return tuple(("throw", "abcdefghijkl"[k], most) for k, most in enumerate(many))


def programs(seed, many, sizes=None):
    """Programs by chance of which no content has more than 2000 runs."""
    chance = random.Random(seed)
    found = []
    while len(found) < many:
        program = random_program(sizes or chance.choice(SIZES), chance)
        if all(all_runs(program, content, 2000) is not None for content in all_contents(program.sizes)):
            found.append(program)
    return found


class Running(unittest.TestCase):
    def assert_run(self, block, content, thrown, expected, sizes=(2, 2, 2)):
        self.assertEqual(run(Program(sizes, block), content, thrown), expected)

    def test_nothing(self):
        self.assert_run((), (0, 0, 0), (), ((), (), 0))

    def test_opening(self):
        self.assert_run((("open", 2), ("open", 0)), (0, 0, 0), (), ((0, 2), (2, 0), 0))
        self.assert_run((("open", 2), ("open", 2), ("open", 0), ("open", 2)), (1, 1, 1), (), ((0, 2), (2, 0), 0))

    def test_showing_opens_what_is_not_open_ascending(self):
        self.assert_run((("open", 1), ("show", (0, 1, 2))), (0, 0, 0), (), ((0, 1, 2), (1, 0, 2), 0))
        self.assert_run((("show", (0, 2)),), (0, 0, 0), (), ((0, 2), (0, 2), 0))

    def test_showing_shows_just_the_pattern(self):
        self.assert_run((("open", 1), ("open", 0), ("show", (2,))), (0, 0, 0), (), ((2,), (1, 0, 2), 0))
        self.assert_run((("open", 1), ("show", ())), (0, 0, 0), (), ((), (1,), 0))

    def test_a_show_ends_the_run(self):
        self.assert_run((("show", (0,)), ("open", 1), ("show", (2,))), (0, 0, 0), (), ((0,), (0,), 0))
        self.assert_run((("again", 8, (("show", (0,)), ("open", 1))), ("open", 2)), (0, 0, 0), (), ((0,), (0,), 0))
        within = (("if", ("cell", 0, 0), (("again", 2, (("show", ()),)), ("throw", "a", 2)), ()), ("open", 2))
        self.assert_run(within, (0, 0, 0), (), ((), (0,), 0))
        self.assert_run(within, (1, 0, 0), (), ((0, 2), (0, 2), 0))

    def test_a_test_of_a_cell_opens_it(self):
        block = (("if", ("cell", 1, 1), (("open", 0),), (("open", 2),)),)
        self.assert_run(block, (0, 1, 0), (), ((0, 1), (1, 0), 0))
        self.assert_run(block, (0, 0, 0), (), ((1, 2), (1, 2), 0))
        self.assert_run((("if", ("cell", 1, 2), (), ()),), (0, 1), (), ((1,), (1,), 0), (2, 3))
        self.assert_run((("open", 1), ("if", ("cell", 1, 0), (), ())), (0, 0, 0), (), ((1,), (1,), 0))

    def test_names_have_0_at_first(self):
        self.assert_run((("if", A_IS[0], (("open", 1),), ()),), (0, 0, 0), (), ((1,), (1,), 0))
        self.assert_run((("if", A_IS[1], (("open", 1),), ()),), (0, 0, 0), (), ((), (), 0))

    def test_putting(self):
        great = 10 ** 59
        self.assert_run((("put", "a", great), ("if", ("name", "a", great), (("open", 1),), ())),
                        (0, 0, 0), (), ((1,), (1,), 0))
        self.assert_run((("put", "a", 1), ("put", "a", 2), ("if", A_IS[1], (("open", 1),), ())), (0, 0, 0), (),
                        ((), (), 0))
        self.assert_run((("put", "b", 1), ("if", A_IS[0], (("open", 1),), ())), (0, 0, 0), (), ((1,), (1,), 0))

    def test_throwing(self):
        block = (("throw", "a", 12), ("throw", "b", 2), ("if", A_IS[11], (("open", 1),), ()),
                 ("if", ("name", "b", 1), (("open", 0),), ()))
        self.assert_run(block, (0, 0, 0), (11, 1), ((0, 1), (1, 0), 2))
        self.assert_run(block, (0, 0, 0), [0, 1], ((0,), (0,), 2))
        self.assert_run(block, (0, 0, 0), (10, 0), ((), (), 2))

    def test_throws_may_be_left_over(self):
        self.assert_run((("throw", "a", 2),), (0, 0, 0), (1, 99, 10 ** 59), ((), (), 1))
        self.assert_run((), (0, 0, 0), [5, 5], ((), (), 0))
        self.assert_run((("show", ()), ("throw", "a", 2)), (0, 0, 0), (7,), ((), (), 0))

    def test_again(self):
        block = (("again", 8, (("throw", "a", 2), ("if", A_IS[1], (("show", (0,)),), ()))),)
        self.assert_run(block, (0, 0, 0), (0,) * 8, ((), (), 8))
        self.assert_run(block, (0, 0, 0), (0, 0, 1, 5), ((0,), (0,), 3))
        self.assert_run((("again", 0, (("open", 0), ("throw", "a", 2))),), (0, 0, 0), (), ((), (), 0))

    def test_again_counts_each_time(self):
        # Names go round: 0, 1, 2, 0, ..
        turn = ("if", A_IS[0], (("put", "a", 1),), (("if", A_IS[1], (("put", "a", 2),), (("put", "a", 0),)),))
        for times in range(9):
            for value in range(3):
                block = (("again", times, (turn,)), ("if", A_IS[value], (("open", 0),), ()))
                told = (0,) if times % 3 == value else ()
                self.assert_run(block, (0, 0, 0), (), (told, told, 0))
                self.assertEqual(habit_by(Program((2,), block)), habit_of_runs(Program((2,), block)))

    def test_loops_in_loops_to_the_greatest(self):
        turn = ("if", A_IS[0], (("put", "a", 1),), (("put", "a", 0),))
        block = (turn,)
        for _ in range(4):
            block = (("again", 8, block),)
        self.assert_run(block + (("if", A_IS[0], (("open", 0),), ()),), (0, 0, 0), (), ((0,), (0,), 0))

    def test_wrong_contents(self):
        for content in strangers() + [(), (0,), (0, 2), (2, 0), (0, 0, 0), (0, True), [0, 0], "00", (-1, 0), (0, None)]:
            for thrown in ((), None):
                with self.assertRaises(NoContent):
                    run(EMPTY, content, thrown)

    def test_wrong_throws(self):
        for thrown in [None, True, 0, 1, "", "01", b"", b"\x00", {}, {0: 0}, range(2), iter([0]), (-1,), [-1], (True,),
                       [False], (None,), ("0",), ((0,),), [[0]], (0, -1), (0, 1, None), small_habit(), EMPTY, int,
                       deep_tuple(40), deep_list(40), deep_dict(40), bytearray(2), Ellipsis, slice(2)]:
            for program in (EMPTY, Program((2, 2), (("throw", "a", 2),))):
                with self.assertRaises(NoThrows):
                    run(program, (0, 0), thrown)

    def test_throws_that_are_lacking_or_too_great(self):
        program = Program((2, 2), (("throw", "a", 2), ("if", A_IS[1], (("throw", "b", 12),), ())))
        for thrown in [(), [], (2,), (12,), (1,), [1], (1, 12), (1, 99), (10 ** 59,), (2, 0)]:
            with self.assertRaises(NoThrows):
                run(program, (0, 0), thrown)
        for thrown in [(0,), (1, 11), (0, 12), [1, 0]]:
            self.assertEqual(run(program, (0, 0), thrown), ((), (), 1 + thrown[0]))

    def test_the_row_of_throws_is_not_changed(self):
        thrown = [1, 1, 1]
        run(Program((2,), (("throw", "a", 2), ("throw", "a", 2))), (0,), thrown)
        self.assertEqual(thrown, [1, 1, 1])

    def test_by_the_words_of_the_document(self):
        for program in programs(1, 150):
            for content in all_contents(program.sizes):
                for machine, _ in all_runs(program, content)[:40]:
                    self.assertTrue(same_as_run(program, content, machine), program.block)


class Habits(unittest.TestCase):
    def test_without_throws(self):
        self.assertEqual(habit_by(EMPTY), Habit((2, 2), ((((), (1, 1)),),) * 4))
        self.assertEqual(habit_by(Program((2, 2), (("show", (0, 1)),))), whole((2, 2)))

    def test_throws_come_with_like_shares(self):
        for most in (2, 3, 12):
            for value in range(most):
                block = (("throw", "a", most), ("if", A_IS[value], (("show", ()),), (("show", (0,)),)))
                self.assertEqual(habit_by(Program((2,), block)), habit_of((2,), {((), ()): (1, most)}))

    def test_throws_that_are_tested_later(self):
        block = (("throw", "a", 3), ("if", ("cell", 0, 1), (("if", A_IS[2], (("open", 1),), ()),), ()))
        self.assertEqual(habit_by(Program((2, 2), block)),
                         habit_of((2, 2), {((0,), (0,)): (1, 1), ((0,), (1,)): (2, 3)}))

    def test_one_and_five_columns(self):
        self.assertEqual(habit_by(Program((4,), (("if", ("cell", 0, 3), (), (("show", ()),)),))).rows,
                         ((((), (1, 1)),),) * 3 + ((((0,), (1, 1)),),))
        sizes = (2, 2, 2, 2, 2)
        block = (("throw", "a", 2), ("if", A_IS[1], (("if", ("cell", 4, 1), (("open", 0),), ()),), (("show", (2,)),)))
        self.assertEqual(habit_by(Program(sizes, block)), habit_of_runs(Program(sizes, block)))

    def test_by_the_words_of_the_document(self):
        fair = 0
        for program in programs(2, 250):
            found = habit_by(program)
            self.assertEqual(found, habit_of_runs(program), program.block)
            fair += is_fair(found)
        self.assertGreater(fair, 50)
        self.assertLess(fair, 220)

    def test_great_sizes(self):
        for sizes in [(4, 4, 4, 4), (4, 4, 4, 2, 2)]:
            block = (("throw", "a", 2), ("if", ("cell", 3, 1), (("if", A_IS[1], (("open", 0),), ()),), (("show", (1,)),)))
            self.assertEqual(habit_by(Program(sizes, block)), habit_of_runs(Program(sizes, block)))

    def test_equal_calls_give_equal_ones(self):
        for program in programs(3, 20):
            self.assertEqual(habit_by(program), habit_by(Program(program.sizes, program.block)))


# 1 + 1000 runs, and 1000 more.
THOUSAND_AND_ONE = (("throw", "x", 2), ("if", ("name", "x", 1), throws(10, 10, 10), ()))
RUNS = {
    2000: [throws(10, 10, 10, 2), throws(2, 10, 10, 10), throws(8, 5, 5, 10), (("again", 3, throws(10)),) + throws(2),
           (("throw", "x", 2), ("if", ("name", "x", 1), throws(10, 10, 10), throws(10, 10, 10)))],
    2001: [(("throw", "y", 2), ("if", ("name", "y", 1), THOUSAND_AND_ONE, throws(10, 10, 10))),
           (("throw", "y", 2), ("if", ("name", "y", 0), THOUSAND_AND_ONE, throws(10, 10, 10)), ("show", ()))],
    2048: [(("again", 8, (("throw", "a", 2),)), ("again", 3, (("throw", "a", 2),))), throws(8, 8, 8, 4)],
    4000: [throws(10, 10, 10, 4), (("throw", "x", 2),) + (("if", ("name", "x", 1), throws(10, 10, 10, 2),
                                                         throws(10, 10, 10, 2)),)],
    10 ** 48: [(("again", 8, (("again", 6, throws(10)),)),)],
    12 ** 60: [(("throw", "a", 12),) * 60],
}


class Many(unittest.TestCase):
    def calls(self, program):
        chances = even_chances(program.sizes)
        return [lambda: habit_by(program), lambda: is_blind(program), lambda: peeks(program, chances),
                lambda: alike(program, program), lambda: alike(Program(program.sizes, ()), program)]

    def test_two_thousand_runs_and_more(self):
        for many, blocks in RUNS.items():
            for block in blocks:
                for call in self.calls(Program((2, 2), block)):
                    if many <= 2000:
                        call()
                    else:
                        with self.assertRaises(TooMany) as caught:
                            call()
                        self.assertEqual(caught.exception.most, 2000)

    def test_runs_of_one_content(self):
        # 2000 of each content, but 4000 of all together: those of one content count.
        block = (("if", ("cell", 0, 0), throws(10, 10, 10, 2), throws(10, 10, 10, 2)),)
        for call in self.calls(Program((2, 2), block)):
            call()
        # Just the contents with 1 and 1 have more.
        block = (("if", ("cell", 0, 1), (("if", ("cell", 1, 1), RUNS[2001][0], ()),), ()),)
        for call in self.calls(Program((2, 2), block)):
            with self.assertRaises(TooMany):
                call()

    def test_runs_that_end_early_count(self):
        show = (("show", (0,)),)
        block = (("throw", "x", 2), ("if", ("name", "x", 1), throws(10, 10, 10) + show, THOUSAND_AND_ONE + show))
        for call in self.calls(Program((2, 2), block)):
            with self.assertRaises(TooMany):
                call()
        block = (("throw", "x", 2), ("if", ("name", "x", 1), throws(10, 10, 10) + show, throws(10, 10, 10)))
        for call in self.calls(Program((2, 2), block)):
            call()

    def test_a_run_has_no_such_limit(self):
        self.assertEqual(run(Program((2, 2), RUNS[12 ** 60][0]), (0, 0), (11,) * 60), ((), (), 60))

    def test_like_throws_count_apart(self):
        # What a throw tells is lost at once, and yet there are 2048 runs.
        block = (("again", 8, (("throw", "a", 2), ("put", "a", 0))), ("again", 3, (("throw", "a", 2), ("put", "a", 0))))
        with self.assertRaises(TooMany):
            habit_by(Program((2,), block))

    def test_too_many_comes_behind_all_other_errors(self):
        program = Program((2, 2), RUNS[2001][0])
        with self.assertRaises(NoChances):
            peeks(program, None)
        with self.assertRaises(OtherSizes):
            alike(program, Program((2,), ()))

    def test_great_sizes_with_the_most_runs(self):
        block = (("if", ("cell", 0, 0), (), ()),) + throws(10, 10, 10, 2)
        self.assertEqual(habit_by(Program((4, 4, 4, 4), block)).rows, ((((0,), (1, 1)),),) * 256)


class Blind(unittest.TestCase):
    def test_ordinary_ones(self):
        for block in [(), (("open", 0),), (("show", (0, 1)),), (("open", 1), ("show", (0, 1))),
                      (("if", ("cell", 0, 1), (("open", 1),), ()),)]:
            self.assertIs(is_blind(Program((2, 2), block)), True)
        for block in [(("open", 0), ("show", ())), (("open", 0), ("show", (1,))),
                      (("if", ("cell", 0, 1), (("show", (1,)),), ()),), (("if", ("cell", 0, 1), (), (("show", ()),)),)]:
            self.assertIs(is_blind(Program((2, 2), block)), False)

    def test_one_run_of_many_is_enough(self):
        block = throws(12, 12) + (("if", A_IS[11], (("if", ("name", "b", 11), (("open", 0), ("show", ())), ()),), ()),)
        self.assertIs(is_blind(Program((2, 2), block)), False)

    def test_what_no_run_comes_to_does_not_count(self):
        self.assertIs(is_blind(Program((2, 2), (("if", A_IS[1], (("open", 0), ("show", ())), ()),))), True)
        self.assertIs(is_blind(Program((2, 2), (("again", 0, (("open", 0), ("show", ()))),))), True)

    def test_by_the_words_of_the_document(self):
        seen = {True: 0, False: 0}
        for program in programs(4, 200):
            self.assertIs(is_blind(program), is_blind_by_runs(program))
            seen[is_blind(program)] += 1
            # Who is blind is fair.
            if is_blind(program):
                self.assertIsNone(unfair(habit_by(program)))
        self.assertGreater(min(seen.values()), 30)

    def test_anything_is_judged(self):
        for thing in [thing for thing in strangers() if not isinstance(thing, Program)] + [
                (), ((2, 2), ()), EMPTY.block, whole((2, 2))]:
            self.assertIs(is_blind(thing), False)


class Peeking(unittest.TestCase):
    def test_ordinary_ones(self):
        self.assertEqual(peeks(EMPTY, even_chances((2, 2))), (0, 1))
        self.assertEqual(peeks(Program((2, 2), (("open", 0), ("open", 1), ("show", ()))), even_chances((2, 2))), (2, 1))
        self.assertEqual(peeks(Program((2, 2), (("open", 0), ("show", (1,)))), even_chances((2, 2))), (1, 1))
        block = (("throw", "a", 3), ("if", A_IS[0], (("if", ("cell", 0, 1), (("show", ()),), ()),), ()))
        self.assertEqual(peeks(Program((2,), block), ((1, 5), (4, 5))), (4, 15))

    def test_by_the_words_of_the_document(self):
        chance = random.Random(5)
        for program in programs(5, 120):
            chances = random_chances(program.sizes, chance)
            told = 0
            for content, share in zip(all_contents(program.sizes), chances):
                for machine, part in all_runs(program, content):
                    told += Fraction(*share) * part * len(set(machine.order) - set(machine.shown))
            self.assertEqual(peeks(program, chances), pair(told))
            self.assertIs(peeks(program, chances) == (0, 1), is_blind(program))

    def test_wrong_chances(self):
        for thing in strangers() + [((1, 4),) * 3, [(1, 4)] * 4, ((1, 2), (1, 2), (0, 1), (0, 1)), ((1, 4),) * 5,
                                    ((1, 4), (1, 4), (1, 4), (1, 5)), ((2, 8),) * 4, None, (deep_list(39),) * 4]:
            with self.assertRaises(NoChances):
                peeks(EMPTY, thing)


class Alike(unittest.TestCase):
    def test_ordinary_ones(self):
        self.assertIs(alike(EMPTY, EMPTY), True)
        self.assertIs(alike(EMPTY, Program((2, 2), (("open", 0), ("show", ())))), True)
        self.assertIs(alike(EMPTY, Program((2, 2), (("open", 0),))), False)
        one = (("throw", "a", 2), ("if", A_IS[0], (("open", 0),), ()))
        self.assertIs(alike(Program((2, 2), one), Program((2, 2), (("throw", "b", 4),) + (
            ("if", ("name", "b", 1), (("open", 0),), (("if", ("name", "b", 2), (("open", 0),), ()),)),))), True)
        self.assertIs(alike(Program((2, 2), one), Program((2, 2), (("throw", "a", 3),) + one[1:])), False)

    def test_it_asks_for_habits(self):
        found = programs(6, 40, (2, 2))
        seen = {True: 0, False: 0}
        for one in found:
            for other in found:
                self.assertIs(alike(one, other), habit_by(one) == habit_by(other))
                seen[alike(one, other)] += 1
        self.assertGreater(min(seen.values()), 30)

    def test_unlike_sizes(self):
        for other in [Program((2,), ()), Program((4,), ()), Program((2, 3), ()), Program((2, 2, 2), ()), None, (2, 2), (),
                      "", 0, True, b"", [], {}, whole((2, 2)), deep_tuple(40), deep_list(40), Program]:
            with self.assertRaises(OtherSizes):
                alike(EMPTY, other)


class Examples(unittest.TestCase):
    def test_e04(self):
        self.assertIs(habit_by(Program((2, 2), (("if", ("cell", 0, 1), (("open", 1),), ()),)))
                      == habit_of((2, 2), {((0,), (0,)): (1, 1)}), True)

    def test_e05(self):
        block = (("throw", "a", 3), ("if", ("name", "a", 2), (("show", (1,)),), (("show", (0,)),)))
        self.assertEqual(run(Program((2, 2), block), (1, 0), (2,)), ((1,), (1,), 1))

    def test_e07(self):
        self.assertEqual(unfair(habit_by(Program((2, 2), (("if", ("cell", 0, 1), (("show", (1,)),), ()),)))),
                         ((1,), (0, 0), (1, 0)))


if __name__ == "__main__":
    unittest.main()
