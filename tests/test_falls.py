import random
import unittest
from fractions import Fraction

from fairmasks.askers import Asker
from fairmasks.errors import NoContent, NoNumber, NoPattern, NoPolicy, NotBlind, TooMany
from fairmasks.falls import breach, is_breach, sway
from fairmasks.habits import share
from fairmasks.keeper import Keeper
from fairmasks.making import program_of
from fairmasks.programs import Program
from fairmasks.running import habit_by, is_blind
from makers import (POLICIES, SIZES, KeeperByWords, all_contents, all_patterns, all_runs, blind_program, is_blind_by_runs, pair,
                    random_asker, random_program, shown_shares)
from samples import deep_dict, deep_list, deep_tuple, small_habit, strangers
from test_keeper import CHOOSE, NO_CONTENTS, NO_POLICIES, QUIET
from test_running import RUNS, throws

LOOSE = (False, False)
PEEKING = Program((2, 2), (("open", 0), ("show", ())))
GO, FALL = ("go",), ("fall",)
# Opens column 0, and column 1 behind a throw.
BEHIND = Program((2, 2), (("throw", "a", 3), ("open", 0), ("throw", "b", 2), ("if", ("name", "b", 1), (("open", 1),), ())))


def is_breach_by_words(program, policy, content, moves):
    words = KeeperByWords(program, policy)
    words.put(content)
    for move in moves:
        due = words.due()
        if move == FALL:
            words.fall()
        elif due is None or (move == GO) == (due[0] == "throw"):
            return False
        elif move == GO:
            words.do(due)
        elif not 0 <= move[1] < due[1]:
            return False
        else:
            words.do(due, move[1])
    return words.due() is None and words.peeked() > 0


def has_breach(program, policy):
    """Whether a cell can be opened and not shown, by trying all moves with any falls."""
    for content in all_contents(program.sizes):
        first = KeeperByWords(program, policy)
        first.put(content)
        left, seen = [first], set()
        while left:
            words = left.pop()
            key = (tuple(words.sure), tuple(words.loose), tuple(sorted(words.ever[0])))
            if key in seen:
                continue
            seen.add(key)
            due = words.due()
            if due is None and words.peeked():
                return True
            if due is not None:
                for value in range(due[1]) if due[0] == "throw" else [None]:
                    left.append(words.copy())
                    left[-1].do(due, value)
            if words.loose:
                words.fall()
                left.append(words)
    return False


def sway_by_words(program, policy, content, pattern, falls):
    """The greatest share, by going through all that a keeper can do."""
    known = {}

    def greatest(words, left):
        key = (tuple(words.sure), tuple(words.loose), left)
        if key not in known:
            known[key] = best(words, left)
        return known[key]

    def best(words, left):
        due = words.due()
        if due is None:
            return Fraction(words.patterns() == [pattern])
        found = []
        values = range(due[1]) if due[0] == "throw" else [None]
        for value in values:
            after = words.copy()
            after.do(due, value)
            found.append(greatest(after, left))
        told = sum(found) / len(found)
        if left and words.loose:
            fallen = words.copy()
            fallen.fall()
            told = max(told, greatest(fallen, left - 1))
        return told

    first = KeeperByWords(program, policy)
    first.put(content)
    return pair(greatest(first, falls))


def programs(seed, many, most, sizes=None, maker=random_program):
    """Programs by chance of which no content has more than so many runs."""
    chance = random.Random(seed)
    found = []
    while len(found) < many:
        program = maker(sizes or chance.choice(SIZES[:5]), chance)
        if all(all_runs(program, content, most) is not None for content in all_contents(program.sizes)):
            found.append(program)
    return found


def moves_by_chance(program, policy, content, chance):
    words = KeeperByWords(program, policy)
    words.put(content)
    found = []
    while words.due() is not None and len(found) < 60:
        due = words.due()
        if chance.random() < 0.2:
            found.append(FALL)
            words.fall()
        elif due[0] == "throw":
            found.append(("throw", chance.randrange(due[1])))
            words.do(due, found[-1][1])
        else:
            found.append(GO)
            words.do(due)
    return found


class Breach(unittest.TestCase):
    def assert_breach(self, program, policy):
        """That a breach is right, if there is one. Returns whether there is."""
        found = breach(program, policy)
        if found is None:
            return False
        self.assertIs(type(found), tuple)
        content, moves = found
        self.assertIs(type(moves), tuple)
        self.assertTrue(is_breach_by_words(program, policy, content, moves))
        self.assertIs(is_breach(program, policy, found), True)
        self.assertIs(is_breach(program, policy, (content, list(moves))), True)
        return True

    def test_ordinary_ones(self):
        self.assertTrue(self.assert_breach(CHOOSE, LOOSE))
        self.assertTrue(self.assert_breach(BEHIND, LOOSE))
        for program in (QUIET, Program((2, 2), (("open", 0),)), Program((2, 2), (("throw", "a", 2), ("open", 1))),
                        Program((2, 2), (("if", ("cell", 0, 1), (("open", 1),), ()),))):
            for policy in POLICIES:
                self.assertIsNone(breach(program, policy))

    def test_a_policy_with_a_true_flag(self):
        for program in (CHOOSE, BEHIND):
            for policy in POLICIES[1:]:
                self.assertIsNone(breach(program, policy))

    def test_one_pattern_within_the_other(self):
        # Only the greater one can have been opened for nothing.
        for block in [(("throw", "a", 2), ("if", ("name", "a", 1), (("open", 0),), ())),
                      (("throw", "a", 2), ("if", ("name", "a", 0), (("open", 0),), ())),
                      (("open", 1), ("throw", "a", 2), ("if", ("name", "a", 0), (("open", 0),), ()))]:
            self.assertTrue(self.assert_breach(Program((2, 2), block), LOOSE))

    def test_just_some_contents_have_two_patterns(self):
        block = (("if", ("cell", 0, 1), (("throw", "a", 2), ("if", ("name", "a", 1), (("open", 1),), ())), ()),)
        self.assertTrue(self.assert_breach(Program((2, 2), block), LOOSE))
        self.assertEqual(breach(Program((2, 2), block), LOOSE)[0][0], 1)

    def test_the_ninth_fact(self):
        seen = {True: 0, False: 0}
        for program in programs(1, 120, 40, None, blind_program):
            self.assertTrue(is_blind_by_runs(program))
            varied = any(len(shown_shares(program, content)) > 1 for content in all_contents(program.sizes))
            for policy in POLICIES:
                told = varied and policy == LOOSE
                self.assertIs(self.assert_breach(program, policy), told)
                seen[told] += 1
        self.assertGreater(min(seen.values()), 15)

    def test_all_moves_tried(self):
        seen = {True: 0, False: 0}
        for program in programs(2, 80, 12, (2, 2), blind_program):
            for policy in POLICIES:
                told = has_breach(program, policy)
                self.assertIs(breach(program, policy) is not None, told)
                seen[told] += 1
        self.assertGreater(min(seen.values()), 8)

    def test_programs_that_are_made(self):
        chance = random.Random(3)
        seen = 0
        for _ in range(30):
            program = program_of(random_asker(chance.choice(SIZES[:5]), chance, 2, chance.choice([2, 3])))
            seen += self.assert_breach(program, LOOSE)
            self.assertIsNone(breach(program, (True, False)))
        self.assertGreater(seen, 10)

    def test_many_runs(self):
        program = Program((2, 2), throws(10, 10, 10, 2) + (("if", ("name", "d", 1), (("open", 0),), ()),))
        self.assertTrue(self.assert_breach(program, LOOSE))
        # One throw behind another, hundreds of them.
        body = (("throw", "a", 2), ("if", ("name", "a", 1), (("show", (1,)),), ()))
        program = Program((2, 2), (("again", 8, (("again", 8, (("again", 8, body),)),)),))
        self.assertTrue(self.assert_breach(program, LOOSE))

    def test_great_sizes(self):
        block = (("throw", "a", 2), ("if", ("name", "a", 0), (("show", (0, 1)),), (("show", (2, 3)),)))
        self.assertTrue(self.assert_breach(Program((4, 4, 4, 4), block), LOOSE))
        self.assertTrue(self.assert_breach(Program((2, 2, 2, 2, 2), block), LOOSE))
        self.assertTrue(self.assert_breach(Program((2,), (("throw", "a", 2), ("if", ("name", "a", 0), (("open", 0),), ()))),
                                           LOOSE))

    def test_equal_calls_give_equal_ones(self):
        for program in (CHOOSE, BEHIND):
            self.assertEqual(breach(program, LOOSE), breach(Program(program.sizes, program.block), LOOSE))


class IsBreach(unittest.TestCase):
    RIGHT = ((0, 0), (("throw", 0), GO, FALL, ("throw", 1), GO, GO))

    def test_ordinary_ones(self):
        content, moves = self.RIGHT
        for right in [moves, list(moves), moves + (FALL,), (FALL,) + moves, (FALL, FALL) + moves + (FALL, FALL),
                      (("throw", 1), FALL) + moves]:
            self.assertIs(is_breach(CHOOSE, LOOSE, (content, right)), True, right)
        for wrong in [(), moves[:-1], moves + (GO,), moves + (("throw", 0),), moves[1:], (GO,) + moves,
                      (("throw", 0), GO, GO), (("throw", 0), GO, FALL, ("throw", 0), GO, GO),
                      (("throw", 0), FALL, ("throw", 1), GO, GO), moves[:2] + moves[3:], (("throw", 2),) + moves[1:],
                      moves[:3] + (("throw", 2),) + moves[4:], (("throw", 0), GO, GO, FALL, ("throw", 1), GO, GO)]:
            self.assertIs(is_breach(CHOOSE, LOOSE, (content, wrong)), False, wrong)

    def test_with_a_true_flag(self):
        for policy in POLICIES[1:]:
            self.assertIs(is_breach(CHOOSE, policy, self.RIGHT), False)

    def test_by_the_words_of_the_document(self):
        chance = random.Random(4)
        seen = {True: 0, False: 0}
        for program in programs(5, 150, 40, None, blind_program):
            for policy in [LOOSE] * 8 + [chance.choice(POLICIES)]:
                content = chance.choice(all_contents(program.sizes))
                moves = moves_by_chance(program, policy, content, chance)
                if chance.random() < 0.3 and moves:
                    moves[chance.randrange(len(moves))] = chance.choice([GO, FALL, ("throw", 0), ("throw", 1)])
                told = is_breach_by_words(program, policy, content, moves)
                self.assertIs(is_breach(program, policy, (content, moves)), told)
                seen[told] += 1
        self.assertGreater(min(seen.values()), 20)

    def test_anything_is_judged(self):
        content, moves = self.RIGHT
        for thing in strangers() + [
                None, (), (content,), (content, moves, ()), [content, moves], (moves, content), (content, None),
                (content, {}), (content, "go"), (content, iter(moves)), (list(content), moves), ((0, 3), moves),
                ((0, False), moves), (None, moves), {content: moves}]:
            self.assertIs(is_breach(CHOOSE, LOOSE, thing), False, thing)
        for thing in strangers() + [
                ("go", 0), ["go"], ("Go",), (b"go",), "go", ("fall", 0), ["fall"], ("throw",), ["throw", 0], ("throw", True),
                ("throw", False), ("throw", None), ("throw", (0,)), ("throw", -1), ("throw", 0, 0), ("throw", "0"), None,
                ("throw", 10 ** 59), ("open", 0), ("show", (0,)), ("row", 0), (GO,), ("throw", deep_list(38)), (None,), ()]:
            for at in range(len(moves) + 1):
                for kind in (list, tuple):
                    self.assertIs(is_breach(CHOOSE, LOOSE, (content, kind(moves[:at] + (thing,) + moves[at:]))), False)
            self.assertIs(is_breach(CHOOSE, LOOSE, (content, (thing,) + moves[1:])), False)
            self.assertIs(is_breach(CHOOSE, LOOSE, (thing, moves)), False)


class Errors(unittest.TestCase):
    def calls(self, program, policy):
        return [lambda: breach(program, policy), lambda: is_breach(program, policy, None),
                lambda: is_breach(program, policy, IsBreach.RIGHT)]

    def test_not_blind(self):
        for program in (PEEKING, Program((2, 2), throws(10, 10, 10, 2) + PEEKING.block)):
            for policy in POLICIES + [None, (0, 1)]:
                for call in self.calls(program, policy):
                    with self.assertRaises(NotBlind):
                        call()

    def test_wrong_policies(self):
        for policy in strangers() + NO_POLICIES:
            if policy != (False, False):
                for program in (CHOOSE, QUIET, Program((2, 2), RUNS[2001][0]),
                                Program((2, 2), RUNS[2001][0] + PEEKING.block)):
                    if len(program.block) < 3 or policy in NO_POLICIES[:4]:
                        for call in self.calls(program, policy):
                            with self.assertRaises(NoPolicy):
                                call()

    def test_too_many(self):
        # Ahead of NotBlind, but behind NoPolicy.
        for program in (Program((2, 2), RUNS[2001][0]), Program((2, 2), RUNS[2001][0] + PEEKING.block),
                        Program((2, 2), RUNS[12 ** 60][0])):
            for policy in POLICIES:
                for call in self.calls(program, policy):
                    with self.assertRaises(TooMany) as caught:
                        call()
                    self.assertEqual(caught.exception.most, 2000)
            with self.assertRaises(NoPolicy):
                breach(program, (0, 1))
        for block in RUNS[2000]:
            self.assertIsNone(breach(Program((2, 2), block), LOOSE))

    def test_sway(self):
        def call(program=CHOOSE, policy=LOOSE, content=(0, 0), pattern=(0,), falls=1):
            return sway(program, policy, content, pattern, falls)
        for policy in strangers() + NO_POLICIES:
            if policy != (False, False):
                for more in ({}, {"content": None, "pattern": None, "falls": None}):
                    with self.assertRaises(NoPolicy):
                        call(policy=policy, **more)
        for content in strangers() + NO_CONTENTS:
            if content != (0, 1):
                for more in ({}, {"pattern": None, "falls": None}):
                    with self.assertRaises(NoContent):
                        call(content=content, **more)
        for pattern in [thing for thing in strangers() if thing != ()] + [(1, 0), (0, 0), (2,), (-1,), [0], (True,), "0",
                                                                         None, (0, 1, 2)]:
            for more in ({}, {"falls": None}):
                with self.assertRaises(NoPattern):
                    call(pattern=pattern, **more)
        for falls in [7, 8, -1, True, False, None, "1", (1,), [1], b"1", {}, 10 ** 59, -(10 ** 59), small_habit(), int,
                      deep_list(40), deep_tuple(40), deep_dict(40), range(1)]:
            with self.assertRaises(NoNumber):
                call(falls=falls)
        for many in (2001, 2048, 12 ** 60):
            program = Program((2, 2), RUNS[many][0])
            with self.assertRaises(TooMany) as caught:
                call(program)
            self.assertEqual(caught.exception.most, 2000)
            for more, error in [({"policy": None}, NoPolicy), ({"content": None}, NoContent), ({"pattern": None}, NoPattern),
                                ({"falls": 7}, NoNumber)]:
                with self.assertRaises(error):
                    call(program, **more)

    def test_too_many_runs_of_another_content(self):
        program = Program((2, 2), (("if", ("cell", 0, 1), RUNS[2001][0], ()),))
        for policy in POLICIES:
            with self.assertRaises(TooMany):
                sway(program, policy, (0, 0), (0,), 0)


class Sway(unittest.TestCase):
    def test_ordinary_ones(self):
        self.assertEqual([sway(CHOOSE, LOOSE, (0, 0), (0,), falls) for falls in range(7)],
                         [pair(1 - Fraction(1, 2 ** (falls + 1))) for falls in range(7)])
        for policy in [(True, False), (True, True)]:
            self.assertEqual([sway(CHOOSE, policy, (0, 0), (0,), falls) for falls in range(7)], [(1, 2)] * 7)
        for policy in POLICIES:
            self.assertEqual(sway(CHOOSE, policy, (0, 0), (), 6), (0, 1))
            self.assertEqual(sway(QUIET, policy, (0, 0), (), 6), (1, 1))

    def test_openings_ahead_keep_what_was_thrown(self):
        # Behind the opening of column 1, the throw is sure with (False, True), and the next throw is not.
        block = (("throw", "a", 2), ("if", ("name", "a", 1), (("open", 0), ("throw", "b", 2), ("if", ("name", "b", 1), (
            ("show", (0, 1)),), ())), ()))
        program = Program((2, 2), block)
        self.assertEqual([sway(program, (False, True), (0, 0), (0, 1), falls) for falls in (0, 1, 2)],
                         [(1, 4), (1, 2), (11, 16)])
        self.assertEqual([sway(program, (False, True), (0, 0), (), falls) for falls in (0, 1, 2)],
                         [(1, 2), (3, 4), (7, 8)])
        for policy in POLICIES:
            for falls in range(4):
                for pattern in [(), (0,), (0, 1), (1,)]:
                    self.assertEqual(sway(program, policy, (0, 0), pattern, falls),
                                     sway_by_words(program, policy, (0, 0), pattern, falls))

    def test_what_is_sure_is_not_lost_by_a_second_fall(self):
        # With (False, True) the throw ahead of an opening is sure once the column is open, and stays so: two falls one
        # behind another lead no further back than one does.
        inner = (("open", 0), ("throw", "a", 2), ("if", ("name", "a", 1), (("throw", "a", 2),), ()))
        other = (("throw", "a", 2), ("if", ("name", "a", 0), inner, (("show", (0, 1)),)), ("throw", "b", 4),
                 ("if", ("name", "b", 3), (("show", (0,)),), ()))
        block = (("throw", "a", 3), ("open", 1), ("if", ("name", "a", 2), (), other),
                 ("if", ("name", "a", 0), (), (("show", (0,)),)))
        program = Program((2, 2), block)
        self.assertEqual([sway(program, (False, True), (0, 0), (0,), falls) for falls in range(7)],
                         [(23, 48), (47, 72), (83, 108), (137, 162), (2843663, 3145728), (47383687, 50331648),
                          (776939711, 805306368)])
        for policy in POLICIES:
            for falls in range(7):
                for pattern in [(), (0,), (0, 1), (1,)]:
                    self.assertEqual(sway(program, policy, (0, 0), pattern, falls),
                                     sway_by_words(program, policy, (0, 0), pattern, falls))

    def test_somebody_sees_what_stands_in_the_cells(self):
        block = (("throw", "a", 2), ("if", ("name", "a", 1), (("if", ("cell", 0, 1), (("open", 1),), ()),), ()))
        for content in all_contents((2, 2)):
            self.assertEqual(sway(Program((2, 2), block), LOOSE, content, (0, 1), 1), ((0, 1), (3, 4))[content[0]])

    def test_by_the_words_of_the_document(self):
        chance = random.Random(6)
        for program in programs(7, 80, 30):
            for content in chance.sample(all_contents(program.sizes), 2):
                for pattern in list(shown_shares(program, content))[:3] + [()]:
                    for policy in POLICIES:
                        falls = chance.choice([0, 1, 2, 3, 6])
                        self.assertEqual(sway(program, policy, content, pattern, falls),
                                         sway_by_words(program, policy, content, pattern, falls))

    def test_the_tenth_fact(self):
        seen = 0
        for program in programs(8, 80, 200):
            habit = habit_by(program)
            for content in all_contents(program.sizes)[:3]:
                for pattern in all_patterns(len(program.sizes))[:4]:
                    told = share(habit, pattern, content)
                    for policy in POLICIES:
                        found = [sway(program, policy, content, pattern, falls) for falls in (0, 1, 2, 6)]
                        self.assertEqual(found[0], told)
                        parts = [Fraction(*part) for part in found]
                        self.assertEqual(parts, sorted(parts))
                        self.assertLessEqual(parts[-1], 1)
                        if policy[0]:
                            self.assertEqual(found, [told] * 4)
                        seen += parts[0] < parts[-1]
        self.assertGreater(seen, 30)

    def test_the_program_need_not_be_blind(self):
        block = (("open", 0), ("throw", "a", 2), ("if", ("name", "a", 1), (("show", (1,)),), (("show", ()),)))
        program = Program((2, 2), block)
        self.assertIs(is_blind(program), False)
        self.assertEqual(sway(program, LOOSE, (0, 0), (1,), 2), (7, 8))
        # What is opened first makes nothing sure but what stands ahead of it.
        self.assertEqual(sway(program, (False, True), (0, 0), (), 2), (7, 8))

    def test_many_runs(self):
        program = Program((2, 2), throws(10, 10, 10, 2) + (("if", ("name", "a", 1), (("open", 0),), ()),))
        self.assertEqual(sway(program, LOOSE, (0, 0), (0,), 1), (19, 100))
        self.assertEqual(sway(program, LOOSE, (0, 0), (0,), 6), pair(1 - Fraction(9, 10) ** 7))
        # One throw behind another, hundreds of them.
        body = (("throw", "a", 2), ("if", ("name", "a", 1), (("show", (1,)),), ()))
        program = Program((2, 2), (("again", 8, (("again", 8, (("again", 8, body),)),)),))
        self.assertEqual(sway(program, LOOSE, (0, 0), (), 0), (1, 2 ** 512))
        self.assertEqual(sway(program, LOOSE, (0, 0), (1,), 6), pair(1 - Fraction(1, 2 ** (512 * 7))))
        told = Fraction(*sway(program, LOOSE, (0, 0), (), 6))
        self.assertGreater(told, Fraction(1, 2 ** 512))

    def test_programs_that_are_made(self):
        chance = random.Random(9)
        for _ in range(25):
            asker = random_asker(chance.choice(SIZES[:5]), chance, 2, chance.choice([2, 3]))
            program = program_of(asker)
            content = chance.choice(all_contents(asker.sizes))
            for pattern in shown_shares(program, content):
                for policy in POLICIES:
                    for falls in (0, 2):
                        self.assertEqual(sway(program, policy, content, pattern, falls),
                                         sway_by_words(program, policy, content, pattern, falls))

    def test_a_throw_of_hundreds(self):
        stop = ((-1, (1, 1)),)
        program = program_of(Asker((2,), {((), ()): ((-1, (100, 333)), (0, (233, 333))), ((0,), (0,)): stop,
                                          ((0,), (1,)): stop}))
        for falls in (0, 3):
            self.assertEqual(sway(program, LOOSE, (0,), (0,), falls), pair(1 - Fraction(100, 333) ** (falls + 1)))

    def test_a_keeper_is_led_to_it(self):
        # Falling behind each throw that is not 11, at most six times.
        program = Program((2,), (("throw", "a", 12), ("if", ("name", "a", 11), (("open", 0),), ())))
        told = Fraction(*sway(program, LOOSE, (0,), (0,), 6))
        self.assertEqual(told, 1 - Fraction(11, 12) ** 7)
        keeper = Keeper(program, LOOSE)
        keeper.put((0,))
        for _ in range(6):
            keeper.throw(3)
            keeper.fall()
        self.assertEqual(keeper.due(), ("throw", 12))


if __name__ == "__main__":
    unittest.main()
