"""What the document promises over the whole program."""

import random
import unittest
from fractions import Fraction

from fairmasks.askers import asker_habit, opened
from fairmasks.bets import pays
from fairmasks.book import Book
from fairmasks.errors import TooMany
from fairmasks.falls import breach, sway
from fairmasks.habits import box_shares, habit_of, is_fair, patterns, share
from fairmasks.keeper import Keeper, risen
from fairmasks.making import asker_of, program_of
from fairmasks.papers import asker_for, bet_for, twin
from fairmasks.programs import Program
from fairmasks.questions import two_chances, weights_for
from fairmasks.reading import read_log, read_program, read_shares
from fairmasks.running import alike, habit_by, is_blind, peeks, run
from fairmasks.sharing import renamed
from fairmasks.texts import log_text, program_text, shares_text
from fairmasks.trust import behind
from makers import (POLICIES, SIZES, Scribe, all_contents, all_patterns, all_runs, blind_program, even_chances,
                    random_asker, random_chances, random_program)
from test_keeper import led, with_rows

# Of names that tests take, and of those of programs that are made.
OTHER_NAMES = {"a": "zz", "b": "open", "abcdefgh": "show", "s": "a", "t": "s", "m": "end"}


def programs(seed, many, maker=random_program, most=200):
    chance = random.Random(seed)
    found = []
    while len(found) < many:
        program = maker(chance.choice(SIZES[:5]), chance)
        if all(all_runs(program, content, most) is not None for content in all_contents(program.sizes)):
            found.append(program)
    return found


def each(block, change):
    """A block of which each statement is changed into some, those within first."""
    found = []
    for statement in block:
        if statement[0] == "if":
            statement = ("if", statement[1], each(statement[2], change), each(statement[3], change))
        elif statement[0] == "again":
            statement = ("again", statement[1], each(statement[2], change))
        found.extend(change(statement))
    return tuple(found)


def with_names(statement):
    if statement[0] in ("throw", "put"):
        return [(statement[0], OTHER_NAMES[statement[1]], statement[2])]
    if statement[0] == "if" and statement[1][0] == "name":
        return [("if", ("name", OTHER_NAMES[statement[1][1]], statement[1][2])) + statement[2:]]
    return [statement]


def within_one(statement):
    return [("again", 1, (statement,))]


def with_more_behind(statement):
    """Behind a show, what is never come to."""
    if statement[0] == "show":
        return [statement, ("throw", "a", 12), ("open", 0), ("again", 8, (("show", (0,)),)), ("show", ())]
    return [statement]


def with_columns(turned):
    """Statements for columns that are called otherwise."""
    def change(statement):
        if statement[0] == "open":
            return [("open", turned[statement[1]])]
        if statement[0] == "show":
            # A show opens ascending: in another order, its columns are opened ahead.
            opens = [("open", turned[column]) for column in statement[1]]
            return opens + [("show", tuple(sorted(turned[column] for column in statement[1])))]
        if statement[0] == "if" and statement[1][0] == "cell":
            return [("if", ("cell", turned[statement[1][1]], statement[1][2])) + statement[2:]]
        return [statement]
    return change


def free(sizes, block):
    """A program as one is returned: it may be greater than is let."""
    program = Program(sizes, ())
    program.block = block
    return program


class Alike(unittest.TestCase):
    def assert_alike(self, one, other, turned, chance):
        """Two programs are alike but for their columns: column k of the other is column turned[k] of the one."""
        sizes = one.sizes
        to_other = {old: new for new, old in enumerate(turned)}
        self.assertEqual(other.sizes, tuple(sizes[old] for old in turned))
        content_of = {content: tuple(content[old] for old in turned) for content in all_contents(sizes)}

        def pattern_of(pattern):
            return tuple(sorted(to_other[column] for column in pattern))

        habit = habit_by(one)
        self.assertEqual(habit_by(other), renamed(habit, turned))
        self.assertIs(is_blind(other), is_blind(one))
        self.assertIs(is_fair(habit_by(other)), is_fair(habit))
        self.assertEqual(twin(other)[0], twin(one)[0])
        chances = dict(zip(all_contents(sizes), random_chances(sizes, chance)))
        told = {content_of[content]: chances[content] for content in chances}
        self.assertEqual(peeks(other, tuple(told[content] for content in all_contents(other.sizes))),
                         peeks(one, tuple(chances.values())))
        for content in chance.sample(all_contents(sizes), 2):
            for machine, _ in all_runs(one, content)[:10]:
                shown, order, used = run(other, content_of[content], machine.throws)
                self.assertEqual((shown, used), (pattern_of(machine.shown), len(machine.asked)))
                self.assertEqual(order, tuple(to_other[column] for column in machine.order))
            pattern = chance.choice(patterns(habit))
            for policy in POLICIES:
                for falls in (0, 1, 3):
                    self.assertEqual(sway(other, policy, content_of[content], pattern_of(pattern), falls),
                                     sway(one, policy, content, pattern, falls))
        if is_blind(one):
            for policy in POLICIES:
                self.assertEqual(breach(one, policy) is None, breach(other, policy) is None)
            self.assertEqual(asker_habit(asker_of(other)), renamed(asker_habit(asker_of(one)), turned))
        if is_fair(habit):
            self.assertEqual(read_shares(shares_text(habit_by(other))), habit_by(other))

    def changed(self, change, seed):
        chance = random.Random(seed)
        for program in programs(seed, 40) + programs(seed, 20, blind_program):
            other = free(program.sizes, each(program.block, change))
            self.assert_alike(program, other, tuple(range(len(program.sizes))), chance)
            self.assertIs(alike(program, other), True)

    def test_names_renamed(self):
        self.changed(with_names, 1)

    def test_blocks_within_an_again_of_1(self):
        self.changed(within_one, 2)

    def test_statements_behind_a_show(self):
        self.changed(with_more_behind, 3)

    def test_columns_in_another_order(self):
        chance = random.Random(4)
        for program in programs(4, 40) + programs(5, 20, blind_program):
            turned = tuple(chance.sample(range(len(program.sizes)), len(program.sizes)))
            to_other = {old: new for new, old in enumerate(turned)}
            sizes = tuple(program.sizes[old] for old in turned)
            # In both the columns of a show are opened ahead of it, in the one order.
            one = free(program.sizes, each(program.block, with_columns({column: column for column in turned})))
            self.assertEqual(habit_by(one), habit_by(program))
            self.assert_alike(one, free(sizes, each(program.block, with_columns(to_other))), turned, chance)


class OneHabit(unittest.TestCase):
    def test_a_program_its_asker_and_the_program_of_this(self):
        chance = random.Random(6)
        for program in programs(7, 60, blind_program):
            habit = habit_by(program)
            asker = asker_of(program)
            self.assertEqual(asker_habit(asker), habit)
            made = program_of(asker)
            self.assertEqual(habit_by(made), habit)
            self.assertEqual(asker_of(made), asker)
            self.assertIs(alike(program, made), True)
            chances = random_chances(program.sizes, chance)
            self.assertEqual(peeks(made, chances), (0, 1))
            self.assertEqual(opened(asker, chances), opened(asker_of(made), chances))
            self.assertEqual(asker_habit(asker_for(habit)), habit)
            self.assertEqual(twin(program)[0], "asker")
            for policy in POLICIES:
                content = chance.choice(all_contents(program.sizes))
                for pattern in patterns(habit):
                    self.assertEqual(sway(made, policy, content, pattern, 0), share(habit, pattern, content))

    def test_both_papers(self):
        seen = {}
        for program in programs(8, 150):
            kind, told = twin(program)
            habit = habit_by(program)
            seen[kind] = True
            self.assertIs(kind == "unfair", not is_fair(habit))
            if kind == "asker":
                self.assertEqual(habit_by(program_of(told)), habit)
                self.assertIsNone(bet_for(habit))
                self.assertEqual(read_shares(shares_text(habit)), habit)
                self.assertEqual(habit_of(habit.sizes, box_shares(habit)), habit)
            if kind == "bet":
                self.assertGreater(Fraction(*pays(told, habit)), 1)
        self.assertIn("asker", seen)
        self.assertIn("unfair", seen)

    def test_behind_each_worth_of_a_trusted_lot(self):
        chance = random.Random(9)
        for _ in range(30):
            asker = random_asker((2, 3, 2), chance)
            for lot in [(0,), (1,), (0, 2), (1, 2)]:
                for habit in behind(asker_habit(asker), lot).values():
                    self.assertIsNotNone(asker_for(habit))


class Texts(unittest.TestCase):
    def test_a_program_read_from_its_text(self):
        for program in programs(10, 60):
            other = read_program(program_text(program))
            self.assertEqual(other, program)
            self.assertEqual(habit_by(other), habit_by(program))

    def test_a_keeper_raised_from_the_text_of_its_log(self):
        chance = random.Random(11)
        for program in programs(12, 60):
            policy = chance.choice(POLICIES)
            rows = chance.choices(all_contents(program.sizes), k=3)
            keeper = with_rows(program, policy, rows)
            for _ in range(chance.randint(0, 15)):
                if keeper.due() is not None:
                    keeper.throw(chance.randrange(keeper.due()[1])) if keeper.due()[0] == "throw" else keeper.go()
            sure = keeper.log()[0]
            self.assertEqual(read_log(log_text(sure)), sure)
            other = risen(program, policy, rows, read_log(log_text(sure)))
            keeper.fall()
            self.assertEqual((other.due(), other.log()), (keeper.due(), keeper.log()))

    def test_a_keeper_of_a_program_that_was_read(self):
        chance = random.Random(13)
        for program in programs(14, 60):
            other = read_program(program_text(program))
            content = chance.choice(all_contents(program.sizes))
            values = [chance.randint(0, 1) for _ in range(40)]
            if Scribe(program, content, values).asks is None:
                one, two = with_rows(program, (True, False), [content]), with_rows(other, (False, True), [content])
                led(one, values)
                led(two, values)
                self.assertEqual(one.log(), two.log())
                self.assertEqual(one.shown(0), run(program, content, values)[0])


class Shown(unittest.TestCase):
    def test_a_book_of_what_a_keeper_shows(self):
        # All runs, each as often as it comes: the mean of the weights is what is asked.
        for program in programs(15, 40, blind_program, 30):
            habit = habit_by(program)
            question = tuple((place % 3, 1) for place in range(len(habit.rows)))
            weights = weights_for(habit, question)
            self.assertNotEqual(weights is None, two_chances(habit, question) is None)
            if weights is None:
                continue
            book = Book(habit)
            book.ask("a", question)
            for content, told in zip(all_contents(program.sizes), question):
                found = Fraction(0)
                for machine, part in all_runs(program, content):
                    keeper = with_rows(program, (False, False), [content])
                    led(keeper, machine.throws)
                    pattern = keeper.shown(0)
                    book.put((pattern, tuple(content[column] for column in pattern)))
                    found += part * Fraction(*book.answer("a"))
                    book.back()
                self.assertEqual(found, Fraction(*told))

    def test_programs_that_are_made_may_be_passed_on(self):
        chance = random.Random(16)
        for sizes in [(2, 2, 2), (4, 3), (2, 2, 2, 2, 2)]:
            program = program_of(random_asker(sizes, chance, 4, 12))
            for content in all_contents(sizes)[:3]:
                values = [chance.randint(0, 1) for _ in range(20)]
                keeper = with_rows(program, (True, True), [content])
                led(keeper, values)
                self.assertEqual(keeper.shown(0), run(program, content, values)[0])
                self.assertEqual(keeper.peeked(), 0)
            self.assertGreater(program_text(program).count("\n"), 60)
            for call in (lambda: sway(program, (False, True), all_contents(sizes)[0], (0,), 2),
                         lambda: breach(program, (False, False)), lambda: peeks(program, even_chances(sizes))):
                try:
                    call()
                except TooMany as error:
                    self.assertEqual(error.most, 2000)

    def test_lists_and_dicts_that_are_returned_are_new(self):
        keeper = Keeper(Program((2, 2), (("open", 0),)), (False, False))
        keeper.put((0, 1))
        keeper.go()
        for told in (keeper.log()[1], read_log("row 0"), all_patterns(2)):
            told.clear()
        self.assertEqual(keeper.log()[1], [("row", 0), ("open", 0, 0)])
        self.assertEqual(read_log("row 0"), [("row", 0)])


if __name__ == "__main__":
    unittest.main()
