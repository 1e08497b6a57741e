import random
import unittest
from fractions import Fraction

from fairmasks.errors import BadProgram, BadSizes, BadText, NoShares, TooMuch
from fairmasks.habits import Habit, habit_of
from fairmasks.making import program_of
from fairmasks.programs import Program
from fairmasks.reading import read_log, read_program, read_shares
from fairmasks.running import habit_by
from fairmasks.texts import log_text, program_text, shares_text
from makers import ROOT, SIZES, all_contents, pair, random_asker, random_fair, random_program, whole
from samples import deep_dict, deep_list, deep_tuple, strangers
from test_texts import EVERY, EVERY_TEXT, LINES, LINES_TEXT

STRINGLESS = [thing for thing in strangers() if not isinstance(thing, str)] + [
    None, b"sizes 2", ["sizes 2"], ("sizes 2",), {"sizes": 2}, 0, True, deep_list(40), deep_tuple(40), deep_dict(40)]
# Words that are no number as it is written.
NO_NUMBERS = ["", "01", "00", "-1", "+1", "1.0", "a", "0x1", "1_0", " ", "1000000000", "0000000001", "1e3", "-", "1,0"]


class Reading(unittest.TestCase):
    def assert_bad_text(self, read, line, text):
        with self.assertRaises(BadText, msg=text) as caught:
            read(text)
        self.assertEqual(caught.exception.line, line, text)

    def assert_bad_program(self, part, text):
        with self.assertRaises(BadProgram) as caught:
            read_program(text)
        self.assertEqual(caught.exception.part, part, text)


class Programs(Reading):
    def test_every_statement(self):
        text = EVERY_TEXT.replace("9" * 60, "9" * 9)
        told = tuple(("put", "z", 10 ** 9 - 1) if statement == ("put", "z", 10 ** 60 - 1) else statement
                     for statement in EVERY.block)
        self.assertEqual(read_program(text), Program((2, 3), told))
        self.assertEqual(program_text(read_program(text)), text)

    def test_numbers_of_nine_and_ten_digits(self):
        for number in ("0", "1", "10", "999999999"):
            self.assertEqual(read_program("sizes 2\nput a " + number).block, (("put", "a", int(number)),))
            self.assertEqual(read_program(f"sizes 2\nname a {number}\nelse\nend").block,
                             (("if", ("name", "a", int(number)), (), ()),))
        self.assert_bad_text(read_program, 5, EVERY_TEXT)

    def test_nothing(self):
        self.assertEqual(read_program("sizes 2"), Program((2,), ()))
        self.assertEqual(read_program("sizes 4 4 4 2 2\nshow"), Program((4, 4, 4, 2, 2), (("show", ()),)))

    def test_what_is_written_is_read(self):
        chance = random.Random(1)
        for _ in range(200):
            program = random_program(chance.choice(SIZES), chance)
            found = read_program(program_text(program))
            self.assertIs(type(found), Program)
            self.assertEqual(found, program)

    def test_no_strings(self):
        for read in (read_program, read_shares, read_log):
            for thing in STRINGLESS:
                self.assert_bad_text(read, 0, thing)

    def test_the_first_line(self):
        for text in ["", "\n", "open 0", " sizes 2", "sizes 2 ", "sizes  2", "Sizes 2", "size 2", "sizes2", "2 2", "sizes\t2",
                     "sizes 2,2", "sizes 02", "sizes -2", "sizes 1000000000", "sizes a", "end", "sizes 2 2 x\nsizes 2"]:
            self.assert_bad_text(read_program, 1, text)
            self.assert_bad_text(read_shares, 1, text)

    def test_lines_that_are_not_written_so(self):
        wrong = ["", " ", "open", "open 0 0", "open  0", " open 0", "open 0 ", "Open 0", "opens 0", "open a", "throw a",
                 "throw 2 a", "throw a 2 2", "throw", "throw  a 2", "throw A 2", "throw abcdefghi 2", "throw a1 2", "throw  2",
                 "put a", "put 1 a", "put", "put a -1", "put a 1 ", "put A 1", "show a", "show  0", "show 0 ", "show 0,1",
                 "show -", "cell 0", "cell 0 0 0", "cell a 0", "cell", "name a", "name 0 a", "name a 0 0", "name",
                 "name abcdefghi 0", "again", "again a", "again 1 1", "else ", "end ", " end", "else 1", "end 1", "ELSE",
                 "stop", "if", "if cell 0 0", "row 0", "sizes 2", "sizes", "0", "a", "# open 0", "\topen 0", "open\t0"]
        for line in wrong:
            self.assert_bad_text(read_program, 2, "sizes 2 2\n" + line)
            self.assert_bad_text(read_program, 3, "sizes 2 2\nopen 0\n" + line + "\nopen 0")
            self.assert_bad_text(read_program, 3, "sizes 2 2\nagain 1\n" + line + "\nend")

    def test_numbers_that_are_not_written_so(self):
        for word in NO_NUMBERS:
            for line in ("open W", "throw a W", "put a W", "show W", "show 0 W", "cell W 0", "cell 0 W", "name a W",
                         "again W"):
                self.assert_bad_text(read_program, 2, "sizes 2 2\n" + line.replace("W", word))

    def test_names_of_eight_and_nine_letters(self):
        for name in ("a", "z", "abcdefgh", "open", "end"):
            for line, told in [("throw W 2", ("throw", name, 2)), ("put W 1", ("put", name, 1))]:
                self.assertEqual(read_program("sizes 2\n" + line.replace("W", name)).block, (told,))
        for name in ("abcdefghi", "A", "aB", "a1", "1", "_", "a-b", ""):
            for line in ("throw W 2", "put W 1", "name W 1"):
                self.assert_bad_text(read_program, 2, "sizes 2\n" + line.replace("W", name))

    def test_what_cannot_stand_there(self):
        for text, line in [("else", 2), ("end", 2), ("open 0\nend", 3), ("again 1\nelse\nend", 3), ("again 1\nend\nend", 4),
                           ("cell 0 0\nend", 3), ("name a 0\nopen 0\nend", 4), ("cell 0 0\nelse\nelse\nend", 4),
                           ("cell 0 0\nelse\nend\nend", 5), ("cell 0 0\nelse\nend\nelse", 5),
                           ("cell 0 0\nagain 1\nelse\nend\nend", 4), ("again 1\ncell 0 0\nend\nend", 4),
                           ("sizes 2", 2), ("open 0\nsizes 2", 3)]:
            self.assert_bad_text(read_program, line, "sizes 2\n" + text)

    def test_an_end_that_lacks(self):
        for text, line in [("again 1", 3), ("again 1\nopen 0", 4), ("cell 0 0", 3), ("cell 0 0\nelse", 4),
                           ("name a 0\nelse\nopen 0", 5), ("again 1\nagain 1\nend", 5)]:
            self.assert_bad_text(read_program, line, "sizes 2\n" + text)

    def test_a_line_feed_at_the_end(self):
        self.assert_bad_text(read_program, 2, "sizes 2\n")
        self.assert_bad_text(read_program, 3, "sizes 2\nopen 0\n")
        self.assert_bad_text(read_program, 2, "sizes 2\n\nopen 0")
        self.assert_bad_text(read_program, 3, "sizes 2\nagain 1\n")
        self.assert_bad_text(read_program, 1, "\nsizes 2")

    def test_the_first_wrong_line_is_named(self):
        self.assert_bad_text(read_program, 2, "sizes 2\nend\nopen")
        self.assert_bad_text(read_program, 3, "sizes 1\nopen 9\nopen\nagain 1")
        # An end that lacks stands behind all lines.
        self.assert_bad_text(read_program, 4, "sizes 2\nagain 1\nopen 0\nopens")

    def test_wrong_sizes(self):
        for sizes in ["sizes", "sizes 1", "sizes 5", "sizes 0", "sizes 2 2 2 2 2 2", "sizes 4 4 4 4 2", "sizes 999999999"]:
            self.assert_bad_program("sizes", sizes)
            self.assert_bad_program("sizes", sizes + "\nopen 9\nagain 1\nend")
            self.assert_bad_text(read_program, 2, sizes + "\nopen")

    def test_wrong_numbers_and_columns(self):
        for line in ["open 2", "open 999999999", "throw a 0", "throw a 1", "throw a 13", "show 2", "show 1 0", "show 0 0",
                     "show 0 1 2", "cell 2 0\nelse\nend", "cell 0 2\nelse\nend", "cell 1 3\nelse\nend", "again 9\nend"]:
            self.assert_bad_program("block", "sizes 2 3\n" + line)
            self.assert_bad_program("block", "sizes 2 3\nagain 1\n" + line + "\nend")
            self.assert_bad_program("block", "sizes 2 3\nagain 1\nend\n" + line + "\nopen 0" * 80)
            self.assert_bad_text(read_program, line.count("\n") + 3, "sizes 2 3\n" + line + "\nend")
        for line in ["throw a 2", "throw a 12", "cell 1 2\nelse\nend", "again 8\nend", "again 0\nend", "show 0 1"]:
            read_program("sizes 2 3\n" + line)

    def test_sixty_statements_and_more(self):
        self.assertEqual(len(read_program("sizes 2" + "\nopen 0" * 60).block), 60)
        self.assert_bad_program("size", "sizes 2" + "\nopen 0" * 61)
        within = "sizes 2\nagain 1\ncell 0 0" + "\nopen 0" * 29 + "\nelse" + "\nopen 0" * 29 + "\nend\nend"
        self.assertEqual(len(read_program(within).block), 1)
        self.assert_bad_program("size", within + "\nopen 0")

    def test_six_deep_and_more(self):
        for opening, ending in [("\nagain 1", "\nend"), ("\ncell 0 0", "\nelse\nend"), ("\nname a 0\nelse", "\nend")]:
            for deep in range(1, 12):
                text = "sizes 2" + opening * (deep - 1) + "\nopen 0" + ending * (deep - 1)
                if deep <= 6:
                    self.assertEqual(program_text(read_program(text)), text)
                else:
                    self.assert_bad_program("deep", text)

    def test_texts_that_are_very_deep(self):
        for deep in (59, 60, 61, 1000, 20000):
            text = "sizes 2" + "\nagain 1" * deep + "\nend" * deep
            self.assert_bad_program("deep" if deep <= 60 else "size", text)
            self.assert_bad_text(read_program, 2 * deep + 1, text[:-4])
            self.assert_bad_program("block", text.replace("again 1", "again 9"))
            text = "sizes 2" + "\ncell 0 0\nelse" * deep + "\nend" * deep
            self.assert_bad_program("deep" if deep <= 60 else "size", text)

    def test_programs_that_are_made(self):
        # Beyond what is let, they are refused as when they are constructed.
        chance = random.Random(2)
        seen = {}
        for sizes, most, bottom in [((2,), 2, 3), ((2, 2), 3, 5), ((2, 2), 2, 30), ((2, 2, 2), 3, 6), ((2, 2, 2), 4, 40)] * 6:
            program = program_of(random_asker(sizes, chance, most, bottom))
            text = program_text(program)
            try:
                Program(sizes, program.block)
                self.assertEqual(read_program(text), program)
                self.assertEqual(habit_by(read_program(text)), habit_by(program))
            except BadProgram as error:
                self.assert_bad_program(error.part, text)
                seen[error.part] = True
        self.assertEqual(sorted(seen), ["block", "size"])


class Shares(Reading):
    def test_ordinary_ones(self):
        self.assertEqual(read_shares("sizes 2 3\n- 1/4\n0=0 1/8\n0=1 1/4\n1=2 1/2"), habit_of(
            (2, 3), {ROOT: (1, 4), ((1,), (2,)): (1, 2), ((0,), (1,)): (1, 4), ((0,), (0,)): (1, 8)}))
        self.assertEqual(read_shares("sizes 2 2"), whole((2, 2)))
        self.assertEqual(read_shares("sizes 4\n- 1/1"), habit_of((4,), {ROOT: (1, 1)}))

    def test_what_is_written_is_read(self):
        chance = random.Random(3)
        for _ in range(120):
            habit = random_fair(chance.choice(SIZES + [(2, 2, 2, 2, 2)]), chance)
            found = read_shares(shares_text(habit))
            self.assertIs(type(found), Habit)
            self.assertEqual(found, habit)
            self.assertEqual(shares_text(found), shares_text(habit))

    def test_forty_digits_and_more(self):
        for part in [(10 ** 39, 10 ** 40 - 1), (1, 10 ** 39), (10 ** 40 - 2, 10 ** 40 - 1)]:
            self.assertEqual(read_shares(f"sizes 2\n- {part[0]}/{part[1]}"), habit_of((2,), {ROOT: part}))
        for part in [(1, 10 ** 40), (10 ** 40, 10 ** 40 + 1), (10 ** 39, 10 ** 40 + 1)]:
            text = shares_text(habit_of((2,), {ROOT: part}))
            self.assert_bad_text(read_shares, 2, text)

    def test_lines_that_are_not_written_so(self):
        wrong = ["", " ", "1/2", "-", "- ", " - 1/2", "-  1/2", "- 1/2 ", "- 1", "- 1/", "- /2", "- 1/2/3", "- 1 / 2", "- 1/2 1/2",
                 "- - 1/2", "- 0=0 1/2", "0=0", "0=0 - 1/2", "0 0 1/2", "0=0=0 1/2", "=0 1/2", "0= 1/2", "= 1/2", "0 = 0 1/2",
                 "0=0 0.5", "0=0 1:2", "0:0 1/2", "a=0 1/2", "0=a 1/2", "0=0,1=0 1/2", "0=0  1=0 1/2", "-0=0 1/2", "00=0 1/2",
                 "0=00 1/2", "1000000000=0 1/2", "0=1000000000 1/2", "sizes 2 2", "end", "0=0 x/2", "0=0 1/x", "-1/2", "0=01/2"]
        for line in wrong:
            self.assert_bad_text(read_shares, 2, "sizes 2 2\n" + line)
            self.assert_bad_text(read_shares, 3, "sizes 2 2\n- 1/4\n" + line + "\n1=0 1/2")

    def test_wrong_shares(self):
        for part in ["0/1", "0/5", "2/1", "3/2", "2/4", "2/2", "1/0", "0/0", "-1/2", "1/-2", "+1/2", "01/2", "1/02", "00/1",
                     "10/100", "1.0/2"]:
            self.assert_bad_text(read_shares, 2, "sizes 2 2\n0=0 " + part)
            self.assert_bad_text(read_shares, 2, "sizes 9\n0=9 " + part)

    def test_boxes_that_do_not_ascend(self):
        for one, other in [("-", "-"), ("0=0", "-"), ("0=0", "0=0"), ("0=1", "0=0"), ("1=0", "0=1"), ("1=0", "0=0 1=0"),
                           ("0=0 1=0", "0=0"), ("0=0 2=0", "0=1 1=1")]:
            self.assert_bad_text(read_shares, 3, f"sizes 2 2 2\n{one} 1/9\n{other} 1/9")
            if one != other:
                read_shares(f"sizes 2 2 2\n{other} 1/9\n{one} 1/9")
            self.assert_bad_text(read_shares, 3, f"sizes 1\n{one} 1/9\n{other} 1/9\n- 0/1")

    def test_a_line_feed_at_the_end(self):
        self.assert_bad_text(read_shares, 2, "sizes 2\n")
        self.assert_bad_text(read_shares, 3, "sizes 2\n- 1/2\n")

    def test_wrong_sizes(self):
        for sizes in ["sizes", "sizes 1", "sizes 5", "sizes 2 2 2 2 2 2", "sizes 4 4 4 4 2", "sizes 0", "sizes 999999999"]:
            for rest in ["", "\n0=0 1/2", "\n9=9 1/2", "\n1=0 0=0 1/2"]:
                with self.assertRaises(BadSizes):
                    read_shares(sizes + rest)

    def test_what_is_no_box_of_a_part_pattern(self):
        for line in ["2=0", "0=2", "1=3", "0=0 1=0", "1=0 0=0", "0=0 0=0", "0=0 0=1", "9=0", "0=999999999", "0=0 1=0 2=0",
                     "1=1 1=1"]:
            for text in ["sizes 2 3\n" + line + " 1/2", "sizes 2 3\n- 1/1\n" + line + " 1/1"]:
                with self.assertRaises(NoShares):
                    read_shares(text)

    def test_too_much(self):
        for text, content in [("sizes 2 2\n0=0 2/3\n1=1 1/2", (0, 1)), ("sizes 2 2\n- 1/2\n0=0 1/3\n1=0 1/3", (0, 0)),
                              ("sizes 2\n- 1/1", None), ("sizes 2 2\n- 1/2\n1=1 3/4", (0, 1))]:
            if content is None:
                read_shares(text)
            else:
                with self.assertRaises(TooMuch) as caught:
                    read_shares(text)
                self.assertEqual(caught.exception.content, content)

    def test_errors_one_behind_another(self):
        self.assert_bad_text(read_shares, 4, "sizes 1\n0=9 1/1\n0=10 1/1\nx")
        with self.assertRaises(NoShares):
            read_shares("sizes 2 2\n- 1/1\n0=0 1/1\n0=7 1/1")

    def test_great_sizes(self):
        chance = random.Random(4)
        sizes = (4, 4, 4, 2, 2)
        habit = random_fair(sizes, chance)
        self.assertEqual(read_shares(shares_text(habit)), habit)
        self.assertEqual(len(all_contents(sizes)), len(habit.rows))

    def test_shares_of_which_all_is_used(self):
        habit = habit_of((2, 2), {ROOT: pair(Fraction(1, 3)), ((0,), (0,)): pair(Fraction(2, 3))})
        self.assertEqual(read_shares("sizes 2 2\n- 1/3\n0=0 2/3"), habit)


class Logs(Reading):
    def test_ordinary_ones(self):
        text, lines = LINES_TEXT.replace("9" * 60, "9" * 9), list(LINES)
        lines[5] = ("row", 10 ** 9 - 1)
        self.assertEqual(read_log(text), lines)
        self.assertEqual(log_text(read_log(text)), text)
        self.assert_bad_text(read_log, 6, LINES_TEXT)

    def test_nothing(self):
        self.assertEqual(read_log(""), [])
        self.assertIs(type(read_log("")), list)

    def test_numbers_of_nine_and_ten_digits(self):
        for kind in ("row", "throw"):
            for number in (0, 9, 10, 10 ** 9 - 1):
                self.assertEqual(read_log(f"{kind} {number}"), [(kind, number)])
            for number in (10 ** 9, 10 ** 59):
                self.assert_bad_text(read_log, 1, log_text([(kind, number)]))

    def test_lines_that_are_not_written_so(self):
        wrong = [" ", "row", "row 0 0", "row  0", " row 0", "row 0 ", "Row 0", "rows 0", "row a", "throw", "throw 0 0", "throw a 0",
                 "throw a", "open", "open 0", "open 0 0 0", "open 5 0", "open 0 4", "open 9 0", "open -1 0", "open 0,0",
                 "show a", "show 5", "show 1 0", "show 0 0", "show 0  1", "show 0 ", "show -", "show 0 1 2 3 4 5", "fall", "go",
                 "sizes 2", "end", "0", "a", "\trow 0"]
        for line in wrong:
            self.assert_bad_text(read_log, 1, line)
            self.assert_bad_text(read_log, 2, "row 0\n" + line + "\nrow 0")
        for word in NO_NUMBERS:
            for line in ("row W", "throw W", "open W 0", "open 0 W", "show W"):
                self.assert_bad_text(read_log, 1, line.replace("W", word))

    def test_line_feeds(self):
        self.assert_bad_text(read_log, 1, "\n")
        self.assert_bad_text(read_log, 2, "row 0\n")
        self.assert_bad_text(read_log, 2, "row 0\n\nrow 0")
        self.assert_bad_text(read_log, 1, "\nrow 0")

    def test_each_line_is_judged_by_itself(self):
        self.assertEqual(read_log("show\nshow 0\nrow 3"), [("show", ()), ("show", (0,)), ("row", 3)])

    def test_what_is_written_is_read(self):
        chance = random.Random(5)
        for _ in range(100):
            lines = [chance.choice([("row", chance.randint(0, 99)), ("throw", chance.randint(0, 999)),
                                    ("open", chance.randint(0, 4), chance.randint(0, 3)),
                                    ("show", tuple(sorted(chance.sample(range(5), chance.randint(0, 5)))))])
                     for _ in range(chance.randint(0, 12))]
            self.assertEqual(read_log(log_text(lines)), lines)


if __name__ == "__main__":
    unittest.main()
