import random
import unittest
from fractions import Fraction
from math import lcm

from fairmasks.askers import Asker, asker_habit
from fairmasks.errors import NotBlind, TooMany
from fairmasks.habits import is_fair
from fairmasks.making import asker_of, program_of
from fairmasks.programs import Program
from fairmasks.running import habit_by, is_blind, run
from makers import (ROOT, SIZES, Lacking, Machine, all_contents, all_runs, at, habit_of_runs, is_blind_by_runs, pair,
                    random_asker, random_program, wider)
from test_askers import MOVES, STOP, opens_all
from test_running import RUNS, throws

HALF = (1, 2)


def bottom_at(asker, stand):
    return lcm(*[part[1] for _, part in asker.moves[stand]])


def halves(asker):
    """The asker with these moves at one stand of one column."""
    return Asker((2,), {ROOT: asker, ((0,), (0,)): STOP, ((0,), (1,)): STOP})


def two_columns(stop, one, other):
    """The asker that opens one of two columns, or none, with these shares."""
    moves = {ROOT: ((-1, stop), (0, one), (1, other))}
    for column in (0, 1):
        for worth in (0, 1):
            moves[((column,), (worth,))] = STOP
    return Asker((2, 2), moves)


def two_throws(first, bottom):
    """The asker that opens columns by these moves, and then the other one but for one row in so many."""
    moves = {ROOT: first}
    for column in (0, 1):
        for worth in (0, 1):
            moves[((column,), (worth,))] = tuple(sorted([(-1, (1, bottom)), (1 - column, (bottom - 1, bottom))]))
    for content in all_contents((2, 2)):
        moves[((0, 1), content)] = STOP
    return Asker((2, 2), moves)


def all_throws(program, content, most=3000):
    """The machines of all runs of a content, or of the first ones if there are many."""
    found = []
    left = [()]
    while left and len(found) < most:
        thrown = left.pop()
        try:
            found.append(Machine(program, content, thrown))
        except Lacking as lacking:
            left.extend(thrown + (value,) for value in range(lacking.args[0]))
    return found


def moves_of_runs(program):
    """The moves of the asker of a blind program, by the words of the document: from each stand what is opened next."""
    flows = {}
    for content in all_contents(program.sizes):
        for machine, part in all_runs(program, content):
            for many in range(len(machine.order) + 1):
                pattern = tuple(sorted(machine.order[:many]))
                column = machine.order[many] if many < len(machine.order) else -1
                # Each content of a stand gives the same.
                told = flows.setdefault((pattern, at(pattern, content)), {}).setdefault(content, {})
                told[column] = told.get(column, Fraction(0)) + part
    found = {}
    for stand, by_content in flows.items():
        rows = [tuple((column, pair(told[column] / sum(told.values()))) for column in sorted(told))
                for told in by_content.values()]
        assert rows == rows[:1] * len(rows)
        found[stand] = rows[0]
    return found


class ProgramOf(unittest.TestCase):
    def assert_right(self, asker, runs=True):
        program = program_of(asker)
        self.assertIs(type(program), Program)
        self.assertEqual(program.sizes, asker.sizes)
        for content in all_contents(asker.sizes):
            for machine in all_throws(program, content, 60):
                self.assertEqual(tuple(sorted(machine.order)), machine.shown)
                # At each stand at most one throw, of the least common bottom there; 1 is none.
                stands = [tuple(sorted(machine.order[:many])) for many in range(len(machine.order) + 1)]
                told = [bottom_at(asker, (pattern, at(pattern, content))) for pattern in stands]
                self.assertEqual(machine.asked, [bottom for bottom in told if bottom > 1])
                self.assertEqual(machine.stands, [p for p, bottom in zip(stands, told) if bottom > 1])
                self.assertEqual(run(program, content, machine.throws)[0], machine.shown)
        if runs:
            self.assertIs(is_blind(program), True)
            self.assertEqual(habit_by(program), asker_habit(asker))
            self.assertEqual(asker_of(program), asker)

    def test_ordinary_ones(self):
        self.assert_right(Asker((2, 2), MOVES))
        self.assert_right(halves(((-1, (1, 3)), (0, (2, 3)))))

    def test_one_that_opens_nothing_and_one_that_opens_all(self):
        for sizes in SIZES + [(2, 2, 2, 2, 2), (4, 4, 4, 4)]:
            self.assert_right(Asker(sizes, {ROOT: STOP}))
            self.assert_right(opens_all(sizes))

    def test_by_chance(self):
        chance = random.Random(1)
        for _ in range(120):
            self.assert_right(random_asker(chance.choice(SIZES + [(3, 3, 3)]), chance, 3, chance.choice([4, 7, 30])),
                              False)
        for _ in range(120):
            self.assert_right(random_asker(chance.choice(SIZES[:5]), chance, 2, chance.choice([2, 3, 5])))

    def test_the_habit_by_runs(self):
        chance = random.Random(2)
        for _ in range(30):
            asker = random_asker(chance.choice(SIZES[:4]), chance, 3, chance.choice([3, 4, 6]))
            program = program_of(asker)
            self.assertEqual(habit_of_runs(program), asker_habit(asker))
            self.assertIs(is_blind_by_runs(program), True)

    def test_many_stands(self):
        for sizes in [(4, 4, 4, 4), (4, 4, 4, 2, 2), (2, 2, 2, 2, 2), (3, 3, 3, 3, 3)]:
            asker = random_asker(sizes, random.Random(3), 6, 6)
            program = program_of(asker)
            for content in random.Random(4).sample(all_contents(sizes), 5):
                for machine in all_throws(program, content, 20):
                    self.assertEqual(tuple(sorted(machine.order)), machine.shown)
        # All stands, each column being opened with the same share.
        moves, stands = {}, [ROOT]
        while stands:
            stand = stands.pop()
            closed = [column for column in range(5) if column not in stand[0]]
            moves[stand] = tuple((column, (1, len(closed))) for column in closed) or STOP
            stands.extend(box for column in closed for box in wider((4, 4, 4, 2, 2), stand, column) if box not in moves)
        asker = Asker((4, 4, 4, 2, 2), moves)
        self.assertEqual(len(asker.moves), 5 * 5 * 5 * 3 * 3)
        program = program_of(asker)
        self.assertEqual(habit_by(program), asker_habit(asker))
        self.assertEqual(asker_of(program), asker)

    def test_the_bottoms_up_to_1000(self):
        for part in [(1, 1000), (999, 1000), (1, 999), (500, 997), (1, 13), (1, 12)]:
            self.assert_right(halves(((-1, part), (0, pair(1 - Fraction(*part))))))

    def test_the_bottom_1001_and_more(self):
        for bottom in [1001, 1002, 2000, 10 ** 59]:
            asker = halves(((-1, (1, bottom)), (0, (bottom - 1, bottom))))
            with self.assertRaises(TooMany) as caught:
                program_of(asker)
            self.assertEqual(caught.exception.most, 1000)

    def test_the_least_common_bottom_counts(self):
        self.assert_right(two_columns((1, 8), (1, 125), (867, 1000)))
        # 1001, though no share has a bottom above 143.
        asker = two_columns((68, 77), (1, 143), (10, 91))
        self.assertEqual(bottom_at(asker, ROOT), 1001)
        with self.assertRaises(TooMany):
            program_of(asker)

    def test_a_great_bottom_behind_others(self):
        moves = {**MOVES, ((0,), (1,)): ((-1, (1, 1001)), (1, (1000, 1001)))}
        with self.assertRaises(TooMany):
            program_of(Asker((2, 2), moves))
        moves[((0,), (1,))] = ((-1, (1, 1000)), (1, (999, 1000)))
        self.assert_right(Asker((2, 2), moves))

    def test_what_is_returned_may_be_passed_on(self):
        # 2 * 1000 runs.
        asker = two_throws(((0, HALF), (1, HALF)), 1000)
        program = program_of(asker)
        self.assertEqual(habit_by(program), asker_habit(asker))
        self.assertIs(is_blind(program), True)
        self.assertEqual(asker_of(program), asker)
        # 2 * 1000 runs and one more.
        program = program_of(two_throws(((-1, (1, 3)), (0, (1, 3)), (1, (1, 3))), 1000))
        for call in (habit_by, is_blind, asker_of):
            with self.assertRaises(TooMany) as caught:
                call(program)
            self.assertEqual(caught.exception.most, 2000)

    def test_equal_calls_give_equal_ones(self):
        chance = random.Random(5)
        for _ in range(20):
            asker = random_asker(chance.choice(SIZES), chance)
            turned = Asker(asker.sizes, {stand: asker.moves[stand] for stand in reversed(list(asker.moves))})
            self.assertEqual(program_of(asker), program_of(turned))


class AskerOf(unittest.TestCase):
    def test_ordinary_ones(self):
        self.assertEqual(asker_of(Program((2, 2), ())), Asker((2, 2), {ROOT: STOP}))
        self.assertEqual(asker_of(Program((2,), (("open", 0),))), opens_all((2,)))
        block = (("throw", "a", 2), ("if", ("name", "a", 1), (("if", ("cell", 0, 1), (("open", 1),), ()),), ()))
        self.assertEqual(asker_of(Program((2, 2), block)), Asker((2, 2), MOVES))

    def test_a_show_opens_ascending(self):
        asker = asker_of(Program((2, 2), (("show", (0, 1)),)))
        self.assertEqual(asker, opens_all((2, 2)))
        self.assertEqual(asker_of(Program((2, 2), (("open", 1), ("show", (0, 1))))).moves[ROOT], ((1, (1, 1)),))

    def test_the_share_among_those_that_come_there(self):
        # Half of the rows come to column 0; a third of these open column 1.
        block = (("throw", "a", 2), ("throw", "b", 3), ("if", ("name", "a", 1), (
            ("open", 0), ("if", ("name", "b", 2), (("open", 1),), ())), ()))
        asker = asker_of(Program((2, 2), block))
        self.assertEqual(asker.moves[ROOT], ((-1, HALF), (0, HALF)))
        self.assertEqual(asker.moves[((0,), (0,))], ((-1, (2, 3)), (1, (1, 3))))

    def test_by_the_words_of_the_document(self):
        chance = random.Random(6)
        seen = {True: 0, False: 0}
        while min(seen.values()) < 60:
            program = random_program(chance.choice(SIZES), chance)
            if any(all_runs(program, content, 300) is None for content in all_contents(program.sizes)):
                continue
            blind = is_blind_by_runs(program)
            seen[blind] += 1
            if blind:
                asker = asker_of(program)
                self.assertIs(type(asker), Asker)
                self.assertEqual(asker.moves, moves_of_runs(program))
                # The second fact.
                self.assertEqual(asker_habit(asker), habit_by(program))
                self.assertIs(is_fair(habit_by(program)), True)
            else:
                with self.assertRaises(NotBlind):
                    asker_of(program)

    def test_there_and_back(self):
        chance = random.Random(7)
        for _ in range(60):
            asker = random_asker(chance.choice(SIZES[:5]), chance, 2, chance.choice([2, 3]))
            self.assertEqual(asker_of(program_of(asker)), asker)

    def test_not_blind(self):
        for block in [(("open", 0), ("show", ())), (("if", ("cell", 0, 1), (("show", (1,)),), ()),)]:
            with self.assertRaises(NotBlind):
                asker_of(Program((2, 2), block))

    def test_two_thousand_runs_and_more(self):
        for many, blocks in RUNS.items():
            for block in blocks:
                if many <= 2000:
                    self.assertEqual(asker_of(Program((2, 2), block)), Asker((2, 2), {ROOT: STOP}))
                else:
                    with self.assertRaises(TooMany) as caught:
                        asker_of(Program((2, 2), block))
                    self.assertEqual(caught.exception.most, 2000)

    def test_too_many_comes_ahead_of_not_blind(self):
        peeking = (("open", 0), ("show", ()))
        with self.assertRaises(TooMany):
            asker_of(Program((2, 2), RUNS[2001][0] + peeking))
        with self.assertRaises(NotBlind):
            asker_of(Program((2, 2), throws(10, 10, 10, 2) + peeking))


if __name__ == "__main__":
    unittest.main()
