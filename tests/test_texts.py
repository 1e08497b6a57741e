import random
import unittest

from fairmasks.errors import NoRows, NotFair
from fairmasks.habits import Habit, box_shares, habit_of
from fairmasks.keeper import Keeper
from fairmasks.making import program_of
from fairmasks.programs import Program
from fairmasks.sharing import mixed
from fairmasks.texts import log_text, program_text, shares_text
from makers import ROOT, SIZES, random_asker, random_fair, random_program, whole
from samples import deep_dict, deep_list, deep_tuple, strangers
from test_keeper import NO_LINES

EVERY = Program((2, 3), (
    ("open", 1), ("throw", "abcdefgh", 12), ("put", "z", 0), ("put", "z", 10 ** 60 - 1),
    ("if", ("cell", 1, 2), (("show", ()),), (("again", 0, ()), ("show", (0, 1)))),
    ("if", ("name", "end", 7), (), ()), ("again", 8, (("if", ("name", "a", 0), (("open", 0),), ()),))))
EVERY_TEXT = """sizes 2 3
open 1
throw abcdefgh 12
put z 0
put z 999999999999999999999999999999999999999999999999999999999999
cell 1 2
show
else
again 0
end
show 0 1
end
name end 7
else
end
again 8
name a 0
open 0
else
end
end"""
LINES = [("row", 0), ("throw", 11), ("open", 4, 3), ("open", 0, 0), ("show", ()), ("row", 10 ** 60 - 1), ("throw", 0),
         ("show", (0, 1, 2, 3, 4)), ("show", (3,))]
LINES_TEXT = ("row 0\nthrow 11\nopen 4 3\nopen 0 0\nshow\nrow " + "9" * 60 + "\nthrow 0\nshow 0 1 2 3 4\nshow 3")


def lines_by_words(block):
    """The lines of a block by the words of the document."""
    for statement in block:
        kind = statement[0]
        if kind == "if":
            yield " ".join(map(str, statement[1]))
            yield from lines_by_words(statement[2])
            yield "else"
            yield from lines_by_words(statement[3])
            yield "end"
        elif kind == "again":
            yield f"again {statement[1]}"
            yield from lines_by_words(statement[2])
            yield "end"
        elif kind == "show":
            yield " ".join(["show", *map(str, statement[1])])
        else:
            yield " ".join(map(str, statement))


class Programs(unittest.TestCase):
    def test_every_statement(self):
        self.assertEqual(program_text(EVERY), EVERY_TEXT)

    def test_nothing(self):
        self.assertEqual(program_text(Program((2,), ())), "sizes 2")
        self.assertEqual(program_text(Program((4, 4, 4, 2, 2), (("show", ()),))), "sizes 4 4 4 2 2\nshow")

    def test_by_the_words_of_the_document(self):
        chance = random.Random(1)
        for _ in range(150):
            program = random_program(chance.choice(SIZES), chance)
            told = "\n".join(["sizes " + " ".join(map(str, program.sizes)), *lines_by_words(program.block)])
            self.assertEqual(program_text(program), told)

    def test_programs_that_are_made(self):
        chance = random.Random(2)
        for sizes in [(2, 2), (3, 2, 2), (2, 2, 2, 2, 2)]:
            program = program_of(random_asker(sizes, chance, 4, 30))
            told = "\n".join(["sizes " + " ".join(map(str, sizes)), *lines_by_words(program.block)])
            self.assertEqual(program_text(program), told)


class Shares(unittest.TestCase):
    def test_ordinary_ones(self):
        habit = habit_of((2, 3), {ROOT: (1, 4), ((1,), (2,)): (1, 2), ((0,), (1,)): (1, 4), ((0,), (0,)): (1, 8)})
        self.assertEqual(shares_text(habit), "sizes 2 3\n- 1/4\n0=0 1/8\n0=1 1/4\n1=2 1/2")
        self.assertEqual(shares_text(whole((2, 2))), "sizes 2 2")
        self.assertEqual(shares_text(habit_of((2, 2, 2), {((0, 2), (1, 0)): (1, 1)})), "sizes 2 2 2\n0=1 2=0 1/1")
        self.assertEqual(shares_text(habit_of((4,), {ROOT: (1, 1)})), "sizes 4\n- 1/1")

    def test_by_the_words_of_the_document(self):
        chance = random.Random(3)
        for _ in range(80):
            habit = random_fair(chance.choice(SIZES), chance)
            lines = ["sizes " + " ".join(map(str, habit.sizes))]
            for (pattern, worths), (top, bottom) in sorted(box_shares(habit).items()):
                lines.append(" ".join([f"{c}={worth}" for c, worth in zip(pattern, worths)] or ["-"]) + f" {top}/{bottom}")
            self.assertEqual(shares_text(habit), "\n".join(lines))

    def test_long_numbers(self):
        part = (10 ** 59, 10 ** 60 - 1)
        self.assertEqual(shares_text(habit_of((2,), {ROOT: part})), f"sizes 2\n- {part[0]}/{part[1]}")
        # A habit that is returned may have far longer ones; Python writes no number of more than 4300 digits.
        habit = habit_of((2,), {ROOT: part})
        for _ in range(90):
            habit = mixed(habit, habit_of((2,), {}), part)
        top, bottom = box_shares(habit)[ROOT]
        self.assertGreater(bottom, 10 ** 5000)
        told, under = shares_text(habit).split("\n- ")[1].split("/")
        for number, digits in ((top, told), (bottom, under)):
            self.assertNotEqual(digits[0], "0")
            found = 0
            for at in range(0, len(digits), 1000):
                piece = digits[at:at + 1000]
                found = found * 10 ** len(piece) + int(piece)
            self.assertEqual(found, number)

    def test_not_fair(self):
        cell, other = (((0,), (1, 1)),), (((1,), (1, 1)),)
        with self.assertRaises(NotFair):
            shares_text(Habit((2, 2), (cell, cell, other, other)))


class Logs(unittest.TestCase):
    def test_ordinary_ones(self):
        for kind in (list, tuple):
            self.assertEqual(log_text(kind(LINES)), LINES_TEXT)
            self.assertEqual(log_text(kind([])), "")
            self.assertEqual(log_text(kind([("row", 7)])), "row 7")

    def test_logs_of_keepers(self):
        keeper = Keeper(Program((2, 2), (("throw", "a", 2), ("open", 1))), (True, False))
        keeper.put((0, 1))
        keeper.throw(1)
        keeper.go()
        self.assertEqual(list(map(log_text, keeper.log())), ["row 0\nthrow 1", "open 1 1"])

    def test_each_line_is_judged_by_itself(self):
        # No keeper writes these one behind another.
        self.assertEqual(log_text([("show", (0,)), ("show", (0,)), ("row", 5), ("row", 5)]), "show 0\nshow 0\nrow 5\nrow 5")

    def test_wrong_lines(self):
        for thing in [thing for thing in strangers() if thing not in ((), [])] + [
                "row 0", {}, {("row", 0): True}, ("row", 0), range(0), iter([]), None, deep_tuple(40), deep_dict(40)]:
            with self.assertRaises(NoRows):
                log_text(thing)
        for line in strangers() + NO_LINES:
            for lines in ([line], (line,), [("row", 0), line], [line, ("row", 0)]):
                with self.assertRaises(NoRows):
                    log_text(lines)

    def test_the_row_is_not_changed(self):
        lines = list(LINES)
        log_text(lines)
        self.assertEqual(lines, LINES)


if __name__ == "__main__":
    unittest.main()
