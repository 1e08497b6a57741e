import random
import unittest

from fairmasks.errors import BadLog, MaskError, NoContent, NoNumber, NoPolicy, NoRows, NotDue
from fairmasks.keeper import Keeper, risen
from fairmasks.making import program_of
from fairmasks.programs import Program
from fairmasks.running import run
from makers import POLICIES, SIZES, KeeperByWords, Scribe, all_contents, random_asker, random_program
from samples import deep_dict, deep_list, deep_tuple, small_habit, strangers

# Opens column 0 or 1, as the throw tells.
CHOOSE = Program((2, 3), (("throw", "a", 2), ("if", ("name", "a", 0), (("open", 0),), (("open", 1),))))
# Opens, throws, opens, and shows one of both.
MIXED = Program((2, 3), (("open", 1), ("throw", "a", 3), ("if", ("cell", 0, 1), (("show", (1,)),), ()), ("throw", "b", 2)))
QUIET = Program((2, 2), ())
NO_POLICIES = [(), (True,), (True, False, True), [True, False], (0, 1), (1, 0), (True, 1), (0, True), (None, None), "TF",
               True, None, (True, None), ((), ()), {"a": True}, (b"", b""), ("", True)]
NO_NUMBERS = [-1, True, False, None, "0", (0,), [0], b"0", {}, 10 ** 59, -(10 ** 59), small_habit(), int, deep_list(40),
              deep_tuple(40), deep_dict(40), range(1), "", (), []]
NO_CONTENTS = [(), (0,), (0, 3), (2, 0), (0, -1), (0, 0, 0), [0, 0], (0, True), (False, 0), "00", (0, None), None]


def state(keeper):
    """All that a keeper tells, but for what only falls bring out."""
    rows = []
    while True:
        try:
            rows.append((keeper.shown(len(rows)), keeper.looked(len(rows))))
        except NoNumber:
            return (keeper.due(), keeper.log(), rows, keeper.peeked())


def state_by_words(words):
    patterns = words.patterns()
    rows = [(patterns[k] if k < len(patterns) else None, tuple(sorted(words.ever[k]))) for k in range(len(words.rows))]
    return (words.due(), (words.sure, words.loose), rows, words.peeked())


def led(keeper, values):
    """Let a keeper do all that is due, its throws falling so."""
    values = list(values)
    while keeper.due() is not None:
        if keeper.due()[0] == "throw":
            keeper.throw(values.pop(0))
        else:
            keeper.go()


def with_rows(program, policy, rows):
    keeper = Keeper(program, policy)
    for content in rows:
        keeper.put(content)
    return keeper


def move(keeper, words, chance):
    """The same move for both, by chance."""
    due = keeper.due()
    kind = chance.choice(["go"] * 6 + ["fall", "put"])
    if kind == "put" and len(words.rows) < 6:
        content = chance.choice(all_contents(words.program.sizes))
        assert keeper.put(content) == len(words.rows)
        words.put(content)
    elif kind == "fall":
        keeper.fall()
        words.fall()
    elif due is not None and due[0] == "throw":
        value = chance.randrange(due[1])
        keeper.throw(value)
        words.do(due, value)
    elif due is not None:
        keeper.go()
        words.do(due)


class Deeds(unittest.TestCase):
    def test_no_rows(self):
        for policy in POLICIES:
            keeper = Keeper(CHOOSE, policy)
            self.assertEqual(state(keeper), (None, ([], []), [], 0))
            keeper.fall()
            self.assertEqual(state(keeper), (None, ([], []), [], 0))

    def test_a_row(self):
        keeper = Keeper(CHOOSE, (False, False))
        self.assertEqual(keeper.put((1, 2)), 0)
        self.assertEqual(keeper.due(), ("throw", 2))
        self.assertEqual(keeper.log(), ([], []))
        self.assertIsNone(keeper.throw(1))
        self.assertEqual(keeper.due(), ("open", 1))
        self.assertEqual(keeper.looked(0), ())
        self.assertIsNone(keeper.go())
        self.assertEqual(keeper.log(), ([], [("row", 0), ("throw", 1), ("open", 1, 2)]))
        self.assertEqual((keeper.due(), keeper.shown(0), keeper.looked(0)), (("show", (1,)), None, (1,)))
        keeper.go()
        self.assertEqual(keeper.log(), ([("row", 0), ("throw", 1), ("open", 1, 2), ("show", (1,))], []))
        self.assertEqual((keeper.due(), keeper.shown(0), keeper.looked(0)), (None, (1,), (1,)))

    def test_rows_one_behind_another(self):
        keeper = Keeper(CHOOSE, (False, False))
        self.assertEqual([keeper.put(content) for content in [(0, 0), (1, 1), (0, 2)]], [0, 1, 2])
        led(keeper, [0, 1, 0])
        self.assertEqual(keeper.log()[0], [
            ("row", 0), ("throw", 0), ("open", 0, 0), ("show", (0,)), ("row", 1), ("throw", 1), ("open", 1, 1),
            ("show", (1,)), ("row", 2), ("throw", 0), ("open", 0, 0), ("show", (0,))])
        self.assertEqual([keeper.shown(k) for k in range(3)], [(0,), (1,), (0,)])

    def test_rows_may_come_at_any_time(self):
        keeper = with_rows(CHOOSE, (False, False), [(0, 0)])
        keeper.throw(0)
        self.assertEqual(keeper.put((1, 1)), 1)
        self.assertEqual(keeper.due(), ("open", 0))
        led(keeper, [1])
        self.assertIsNone(keeper.due())
        self.assertEqual(keeper.put((1, 1)), 2)
        self.assertEqual(keeper.due(), ("throw", 2))

    def test_the_columns_of_a_show_are_opened_one_by_one(self):
        keeper = with_rows(Program((2, 2, 2), (("open", 1), ("show", (0, 1, 2)))), (False, False), [(1, 0, 1)])
        seen = []
        while keeper.due() is not None:
            seen.append(keeper.due())
            keeper.go()
        self.assertEqual(seen, [("open", 1), ("open", 0), ("open", 2), ("show", (0, 1, 2))])
        self.assertEqual(keeper.log()[0][1:], [("open", 1, 0), ("open", 0, 1), ("open", 2, 1), ("show", (0, 1, 2))])

    def test_a_run_that_ends_without_a_show_shows_what_is_open(self):
        keeper = with_rows(Program((2, 2, 2), (("open", 2), ("open", 0))), (False, False), [(1, 0, 1)])
        led(keeper, [])
        self.assertEqual(keeper.shown(0), (0, 2))
        keeper = with_rows(QUIET, (False, False), [(0, 0)])
        self.assertEqual(keeper.due(), ("show", ()))
        keeper.go()
        self.assertEqual(keeper.log(), ([("row", 0), ("show", ())], []))

    def test_cells_that_are_opened_and_not_shown(self):
        keeper = with_rows(MIXED, (False, False), [(1, 0), (0, 0), (1, 1)])
        led(keeper, [0, 0, 1, 2])
        self.assertEqual([keeper.shown(k) for k in range(3)], [(1,), (0, 1), (1,)])
        self.assertEqual(keeper.peeked(), 2)
        keeper.put((1, 1))
        keeper.go()
        keeper.throw(0)
        keeper.go()
        # Those of rows that are not shown yet do not count.
        self.assertEqual((keeper.peeked(), keeper.looked(3), keeper.shown(3)), (2, (0, 1), None))

    def test_what_is_not_due(self):
        keeper = Keeper(CHOOSE, (False, False))
        for call in (keeper.go, lambda: keeper.throw(0), lambda: keeper.throw(None)):
            with self.assertRaises(NotDue):
                call()
        keeper.put((0, 0))
        with self.assertRaises(NotDue):
            keeper.go()
        keeper.throw(0)
        for value in (0, 5, None, True):
            with self.assertRaises(NotDue):
                keeper.throw(value)
        keeper.go()
        with self.assertRaises(NotDue):
            keeper.throw(0)
        keeper.go()
        for call in (keeper.go, lambda: keeper.throw(0)):
            with self.assertRaises(NotDue):
                call()

    def test_wrong_throws(self):
        keeper = with_rows(Program((2, 2), (("throw", "a", 12),)), (False, False), [(0, 0)])
        before = state(keeper)
        for value in NO_NUMBERS + [12, 13] + [thing for thing in strangers() if thing not in range(12)]:
            with self.assertRaises(NoNumber):
                keeper.throw(value)
            self.assertEqual(state(keeper), before)
        keeper.throw(11)
        self.assertEqual(keeper.log()[1], [("row", 0), ("throw", 11)])

    def test_wrong_contents(self):
        keeper = Keeper(CHOOSE, (False, False))
        for content in strangers() + NO_CONTENTS:
            if content != (0, 1):
                with self.assertRaises(NoContent):
                    keeper.put(content)
        self.assertEqual(state(keeper), (None, ([], []), [], 0))

    def test_wrong_numbers_of_rows(self):
        keeper = with_rows(CHOOSE, (False, False), [(0, 0), (1, 1)])
        for number in NO_NUMBERS + [2, 3]:
            for call in (keeper.shown, keeper.looked):
                with self.assertRaises(NoNumber):
                    call(number)
        self.assertEqual((keeper.shown(1), keeper.looked(1)), (None, ()))
        for call in (Keeper(CHOOSE, (True, True)).shown, Keeper(CHOOSE, (True, True)).looked):
            with self.assertRaises(NoNumber):
                call(0)

    def test_wrong_policies(self):
        for policy in strangers() + NO_POLICIES:
            if policy != (False, False):
                with self.assertRaises(NoPolicy):
                    Keeper(CHOOSE, policy)
                for rows, lines in [([], []), (None, None)]:
                    with self.assertRaises(NoPolicy):
                        risen(CHOOSE, policy, rows, lines)

    def test_what_is_refused_changes_nothing(self):
        chance = random.Random(1)
        for _ in range(60):
            program = random_program(chance.choice(SIZES), chance)
            policy = chance.choice(POLICIES)
            keeper, words = Keeper(program, policy), KeeperByWords(program, policy)
            for _ in range(chance.randint(0, 15)):
                move(keeper, words, chance)
            before = state(keeper)
            for call in (lambda: keeper.throw(-1), lambda: keeper.throw(99), lambda: keeper.put(None),
                         lambda: keeper.shown(99), lambda: keeper.looked(-1), lambda: keeper.throw(None)):
                with self.assertRaises(MaskError):
                    call()
            if before[0] is None or before[0][0] == "throw":
                with self.assertRaises(NotDue):
                    keeper.go()
            self.assertEqual(state(keeper), before)
            # Nor what is lost by a fall.
            keeper.fall()
            words.fall()
            self.assertEqual(state(keeper), state_by_words(words))

    def test_logs_are_new(self):
        keeper = with_rows(CHOOSE, (False, False), [(0, 0)])
        keeper.throw(0)
        for lines in keeper.log():
            lines.append(None)
        self.assertEqual(keeper.log(), ([], [("row", 0), ("throw", 0)]))


class Policies(unittest.TestCase):
    def logs(self, policy):
        """The log behind each deed of a row that opens, throws, opens, throws and shows."""
        keeper = with_rows(MIXED, policy, [(0, 2)])
        found = []
        for value in (None, 2, None, 1, None):
            keeper.go() if value is None else keeper.throw(value)
            found.append(tuple(len(lines) for lines in keeper.log()))
        return found

    def test_when_lines_are_made_sure(self):
        # row, open 1 | throw | open 0 | throw | show
        self.assertEqual(self.logs((False, False)), [(0, 2), (0, 3), (0, 4), (0, 5), (6, 0)])
        self.assertEqual(self.logs((True, False)), [(0, 2), (3, 0), (3, 1), (5, 0), (6, 0)])
        self.assertEqual(self.logs((False, True)), [(0, 2), (0, 3), (3, 1), (3, 2), (6, 0)])
        self.assertEqual(self.logs((True, True)), [(0, 2), (3, 0), (3, 1), (5, 0), (6, 0)])

    def test_two_openings_ahead(self):
        keeper = with_rows(Program((2, 2), (("open", 0), ("open", 1))), (False, True), [(1, 0)])
        keeper.go()
        self.assertEqual(keeper.log(), ([], [("row", 0), ("open", 0, 1)]))
        keeper.go()
        self.assertEqual(keeper.log(), ([("row", 0), ("open", 0, 1)], [("open", 1, 0)]))


class Falls(unittest.TestCase):
    def test_what_is_lost_is_done_anew(self):
        keeper = with_rows(CHOOSE, (False, False), [(1, 2)])
        keeper.throw(0)
        keeper.go()
        keeper.fall()
        self.assertEqual(state(keeper), (("throw", 2), ([], []), [(None, (0,))], 0))
        led(keeper, [1])
        self.assertEqual(keeper.log()[0], [("row", 0), ("throw", 1), ("open", 1, 2), ("show", (1,))])
        self.assertEqual((keeper.looked(0), keeper.shown(0), keeper.peeked()), ((0, 1), (1,), 1))

    def test_what_is_sure_is_kept(self):
        keeper = with_rows(CHOOSE, (True, False), [(1, 2)])
        keeper.throw(0)
        keeper.go()
        keeper.fall()
        self.assertEqual(state(keeper), (("open", 0), ([("row", 0), ("throw", 0)], []), [(None, (0,))], 0))
        keeper.go()
        # The line of the row is there, and not written anew.
        self.assertEqual(keeper.log(), ([("row", 0), ("throw", 0)], [("open", 0, 1)]))
        keeper.go()
        self.assertEqual(keeper.peeked(), 0)

    def test_what_was_opened_is_known_behind_the_fall(self):
        # Behind the second opening the first one is sure, with the throw ahead of it.
        block = (("throw", "a", 2), ("open", 0), ("if", ("name", "a", 1), (("open", 1),), (("throw", "b", 2),)))
        keeper = with_rows(Program((2, 2), block), (False, True), [(1, 1)])
        keeper.throw(1)
        keeper.go()
        keeper.fall()
        self.assertEqual(keeper.due(), ("open", 0))
        keeper.go()
        keeper.go()
        keeper.fall()
        self.assertEqual(keeper.log(), ([("row", 0), ("throw", 1), ("open", 0, 1)], []))
        self.assertEqual(keeper.due(), ("open", 1))

    def test_rows_and_shown_rows_are_not_lost(self):
        keeper = with_rows(CHOOSE, (False, False), [(0, 0), (1, 1)])
        keeper.throw(0)
        keeper.go()
        keeper.go()
        keeper.throw(1)
        keeper.put((0, 1))
        keeper.fall()
        keeper.fall()
        self.assertEqual([keeper.shown(k) for k in range(3)], [(0,), None, None])
        self.assertEqual(keeper.log(), ([("row", 0), ("throw", 0), ("open", 0, 0), ("show", (0,))], []))
        self.assertEqual(keeper.due(), ("throw", 2))
        keeper.throw(0)
        self.assertEqual(keeper.log()[1], [("row", 1), ("throw", 0)])

    def test_a_fall_at_each_moment(self):
        chance = random.Random(2)
        for _ in range(40):
            program = random_program(chance.choice(SIZES), chance)
            rows = chance.choices(all_contents(program.sizes), k=2)
            for policy in POLICIES:
                for moment in range(12):
                    keeper, words = with_rows(program, policy, rows), KeeperByWords(program, policy)
                    for content in rows:
                        words.put(content)
                    for deed in range(24):
                        if deed == moment:
                            keeper.fall()
                            words.fall()
                        due = words.due()
                        self.assertEqual(keeper.due(), due)
                        if due is None:
                            break
                        value = chance.randrange(due[1]) if due[0] == "throw" else None
                        keeper.go() if value is None else keeper.throw(value)
                        words.do(due, value)
                    self.assertEqual(state(keeper), state_by_words(words))

    def test_by_the_words_of_the_document(self):
        chance = random.Random(3)
        for _ in range(150):
            program = random_program(chance.choice(SIZES), chance)
            policy = chance.choice(POLICIES)
            keeper, words = Keeper(program, policy), KeeperByWords(program, policy)
            for _ in range(40):
                move(keeper, words, chance)
                self.assertEqual(state(keeper), state_by_words(words))

    def test_copies_go_on_apart(self):
        chance = random.Random(4)
        for _ in range(60):
            program = random_program(chance.choice(SIZES), chance)
            policy = chance.choice(POLICIES)
            keeper, words = Keeper(program, policy), KeeperByWords(program, policy)
            for _ in range(chance.randint(0, 20)):
                move(keeper, words, chance)
            other, others = keeper.copy(), words.copy()
            self.assertIs(type(other), Keeper)
            for _ in range(15):
                move(keeper, words, chance)
                move(other, others, chance)
                self.assertEqual(state(keeper), state_by_words(words))
                self.assertEqual(state(other), state_by_words(others))


class Risen(unittest.TestCase):
    def assert_bad(self, index, program, rows, lines, policy=(False, False)):
        with self.assertRaises(BadLog) as caught:
            risen(program, policy, rows, lines)
        self.assertEqual(caught.exception.index, index, lines)

    def test_no_lines(self):
        for policy in POLICIES:
            for kind in (list, tuple):
                keeper = risen(CHOOSE, policy, kind([(0, 0), (1, 2)]), kind([]))
                self.assertEqual(state(keeper), (("throw", 2), ([], []), [(None, ()), (None, ())], 0))
                self.assertIsNone(risen(CHOOSE, policy, kind([]), kind([])).due())

    def test_behind_the_line_of_a_row(self):
        keeper = risen(CHOOSE, (False, False), [(0, 0)], [("row", 0)])
        self.assertEqual(state(keeper), (("throw", 2), ([("row", 0)], []), [(None, ())], 0))
        keeper.throw(1)
        keeper.fall()
        self.assertEqual(state(keeper), (("throw", 2), ([("row", 0)], []), [(None, ())], 0))
        led(keeper, [0])
        self.assertEqual(keeper.log()[0], [("row", 0), ("throw", 0), ("open", 0, 0), ("show", (0,))])

    def test_what_was_opened_is_what_stands_in_the_lines(self):
        keeper = with_rows(CHOOSE, (False, False), [(1, 2)])
        keeper.throw(0)
        keeper.go()
        keeper.fall()
        led(keeper, [1])
        self.assertEqual((keeper.looked(0), keeper.peeked()), ((0, 1), 1))
        other = risen(CHOOSE, (False, False), [(1, 2)], keeper.log()[0])
        self.assertEqual((other.looked(0), other.shown(0), other.peeked()), ((1,), (1,), 0))

    def test_lines_may_end_anywhere(self):
        chance = random.Random(5)
        for _ in range(60):
            program = random_program(chance.choice(SIZES), chance)
            rows = chance.choices(all_contents(program.sizes), k=3)
            keeper = with_rows(program, (False, False), rows)
            while keeper.due() is not None:
                keeper.throw(chance.randrange(keeper.due()[1])) if keeper.due()[0] == "throw" else keeper.go()
            whole = keeper.log()[0]
            for many in range(len(whole) + 1):
                policy = chance.choice(POLICIES)
                words = KeeperByWords(program, policy)
                for content in rows:
                    words.put(content)
                for line in whole[:many]:
                    words.sure.append(line)
                    if line[0] == "open":
                        words.ever[len(words.patterns())].add(line[1])
                keeper = risen(program, policy, rows, chance.choice([list, tuple])(whole[:many]))
                self.assertEqual(state(keeper), state_by_words(words))
                # It goes on as any other, and falls back to no less than these lines.
                for _ in range(6):
                    move(keeper, words, chance)
                    self.assertEqual(state(keeper), state_by_words(words))

    def test_the_sure_lines_of_any_keeper(self):
        chance = random.Random(6)
        for _ in range(100):
            program = random_program(chance.choice(SIZES), chance)
            policy = chance.choice(POLICIES)
            keeper, words = Keeper(program, policy), KeeperByWords(program, policy)
            for _ in range(30):
                move(keeper, words, chance)
            for lines in (keeper.log()[0], keeper.log()[0] + keeper.log()[1]):
                other = risen(program, chance.choice(POLICIES), words.rows, lines)
                self.assertEqual(other.log(), (lines, []))
                if lines == keeper.log()[0] + keeper.log()[1]:
                    self.assertEqual(other.due(), keeper.due())

    def test_lines_that_are_none(self):
        right = [("row", 0), ("throw", 0), ("open", 0, 1), ("show", (0,)), ("row", 1), ("throw", 1), ("open", 1, 2)]
        risen(CHOOSE, (False, False), [(1, 0), (0, 2)], right)
        for at in range(len(right)):
            for thing in strangers() + NO_LINES:
                self.assert_bad(at, CHOOSE, [(1, 0), (0, 2)], right[:at] + [thing] + right[at:])
                self.assert_bad(at, CHOOSE, [(1, 0), (0, 2)], tuple(right[:at] + [thing]))

    def test_lines_that_cannot_stand_there(self):
        right = [("row", 0), ("throw", 0), ("open", 0, 1), ("show", (0,)), ("row", 1), ("throw", 1), ("open", 1, 2),
                 ("show", (1,))]
        others = [("row", 0), ("row", 1), ("row", 2), ("throw", 0), ("throw", 1), ("throw", 2), ("throw", 99),
                  ("open", 0, 0), ("open", 0, 1), ("open", 1, 0), ("open", 1, 2), ("open", 2, 0), ("open", 4, 3),
                  ("show", ()), ("show", (0,)), ("show", (1,)), ("show", (0, 1)), ("show", (4,))]
        for policy in POLICIES:
            for at in range(len(right) + 1):
                for line in others:
                    if line[0] != "throw" or line[1] > 1 or at not in (1, 5):
                        if at == len(right) or line != right[at]:
                            self.assert_bad(at, CHOOSE, [(1, 0), (0, 2)], right[:at] + [line] + right[at + 1:], policy)
        # Behind another throw another column is opened.
        self.assert_bad(2, CHOOSE, [(1, 0)], [("row", 0), ("throw", 1)] + right[2:4])

    def test_lines_behind_all_rows(self):
        for line in [("row", 0), ("row", 1), ("show", ())]:
            self.assert_bad(2, QUIET, [(0, 0)], [("row", 0), ("show", ()), line])
            self.assert_bad(0, QUIET, [], [line])

    def test_the_first_wrong_line_is_named(self):
        self.assert_bad(1, CHOOSE, [(0, 0)], [("row", 0), None, None])
        self.assert_bad(0, CHOOSE, [(0, 0)], [("throw", 0), ("row", 0)])

    def test_wrong_rows_and_no_row_of_lines(self):
        for thing in [thing for thing in strangers() if thing not in ((), [])] + [
                (0, 0), [(0, 0), None], ((0, 3),), [[0, 0]], {(0, 0): 0}, "00", [(0, True)], range(2), iter([])]:
            for lines in ([], None, [None]):
                with self.assertRaises(NoRows):
                    risen(CHOOSE, (False, False), thing, lines)
        for thing in [thing for thing in strangers() if not isinstance(thing, (list, tuple))] + [
                None, "", {}, {0: ("row", 0)}, range(0), iter([]), "row", b"", 0, True, zip()]:
            self.assert_bad(-1, CHOOSE, [(0, 0)], thing)

    def test_rows_and_lines_are_copied(self):
        rows, lines = [(0, 0)], [("row", 0)]
        keeper = risen(CHOOSE, (False, False), rows, lines)
        keeper.put((1, 1))
        keeper.throw(0)
        self.assertEqual((rows, lines), ([(0, 0)], [("row", 0)]))
        rows.clear()
        lines.clear()
        self.assertEqual(keeper.log(), ([("row", 0)], [("throw", 0)]))
        self.assertEqual(keeper.looked(0), ())


NO_LINES = [
    (), ("row",), ("row", 0, 0), ("row", -1), ("row", True), ("row", False), ("row", "0"), ("row", None), ["row", 0],
    ("throw",), ("throw", -1), ("throw", True), ("throw", False), ("throw", None), ("throw", (0,)), ["throw", 0],
    ("open", 0), ("open", False, 1), ("open", 0, True), ("open", 1, False), ("open", True, 2), ("open", 5, 0),
    ("open", 0, 4), ("open", 0, -1), ("open", -1, 0), ("open", 0, None), ["open", 0, 1], ("show",), ("show", 0),
    ("show", [0]), ("show", (1, 0)), ("show", (0, 0)), ("show", (5,)), ("show", (True,)), ("show", (False,)), ("show", None),
    ("show", ((0,),)), ("show", (0,), ()), ["show", (0,)], ("fall",), ("go",), ("fall", (0,)), ("go", ()),
    ("look", 0, 1), ("look", 0), (b"row", 0), ("Row", 0), (0, "row"),
    ("row", [0]), ("show", {}), ("show", deep_tuple(38)), ("row", deep_list(38)), ("open", deep_tuple(38), 0),
]


class Programs(unittest.TestCase):
    def test_programs_that_are_made(self):
        # They may stand deeper than is let, and have hundreds of statements.
        chance = random.Random(7)
        for sizes in [(2, 2), (3, 2, 2), (2, 2, 2, 2, 2)]:
            program = program_of(random_asker(sizes, chance, 4, 30))
            for policy in POLICIES:
                keeper, words = Keeper(program, policy), KeeperByWords(program, policy)
                for _ in range(60):
                    move(keeper, words, chance)
                    self.assertEqual(state(keeper), state_by_words(words))
                risen(program, policy, words.rows, words.sure + words.loose)

    def test_many_throws(self):
        block = (("throw", "a", 2),)
        for _ in range(4):
            block = (("again", 8, block),)
        keeper = with_rows(Program((2,), block), (True, True), [(0,)])
        led(keeper, [0, 1] * 2048)
        self.assertEqual(len(keeper.log()[0]), 4096 + 2)

    def test_loops(self):
        turn = ("if", ("name", "a", 0), (("put", "a", 1),), (("put", "a", 0),))
        for many in range(9):
            for body in [(turn,), (("throw", "b", 2), turn), (turn, ("if", ("name", "a", 1), (("open", 0),), ()))]:
                block = (("again", many, body), ("if", ("name", "a", 1), (("show", (1,)),), ()))
                program = Program((2, 2), block)
                keeper = with_rows(program, (False, False), [(0, 1)])
                led(keeper, [0] * 8)
                shown, _, used = run(program, (0, 1), [0] * 8)
                self.assertEqual(keeper.shown(0), shown)
                self.assertEqual(keeper.log()[0].count(("throw", 0)), used)

    def test_a_keeper_shows_what_a_run_shows(self):
        chance = random.Random(8)
        for _ in range(150):
            program = random_program(chance.choice(SIZES), chance)
            for content in all_contents(program.sizes)[:4]:
                values = [chance.randint(0, 1) for _ in range(60)]
                keeper = with_rows(program, chance.choice(POLICIES), [content])
                if Scribe(program, content, values).asks is not None:
                    continue
                led(keeper, values)
                shown, opened, used = run(program, content, values)
                lines = keeper.log()[0]
                self.assertEqual(keeper.shown(0), shown)
                self.assertEqual(tuple(line[1] for line in lines if line[0] == "open"), opened)
                self.assertEqual([line[1] for line in lines if line[0] == "throw"], values[:used])
                self.assertEqual(keeper.looked(0), tuple(sorted(opened)))
                self.assertEqual(keeper.peeked(), len(opened) - len(shown))


if __name__ == "__main__":
    unittest.main()
