"""Each argument for which an error is named may be anything: it gets this error, or is let, and nothing else happens."""

import random
import unittest

from fairmasks import errors
from fairmasks.askers import Asker, asker_habit, coming, opened
from fairmasks.bets import is_bet, pays, ring_bet, ring_habit
from fairmasks.book import Book
from fairmasks.cuttings import (cuttings, is_fair_showing, pair_showing, showing_of, shown_by, stuck, tree_of,
                                unlike_pair)
from fairmasks.falls import breach, is_breach, sway
from fairmasks.habits import Habit, habit_of, is_fair, share
from fairmasks.keeper import Keeper, risen
from fairmasks.lists import given_up, is_ring, many_orders, nests, order, ring
from fairmasks.programs import Program
from fairmasks.questions import is_telling, mean, spread, spread_of_rows, two_chances, weights_for
from fairmasks.reading import read_log, read_program, read_shares
from fairmasks.rows import both, box_at, contents, in_box, is_box, is_list
from fairmasks.running import alike, is_blind, peeks, run
from fairmasks.sharing import hidden_again, mixed, renamed, share_behind, share_struck, wrong_share
from fairmasks.texts import log_text
from fairmasks.trust import behind, is_enough, trusts
from makers import ROOT, even_chances
from samples import deep_dict, deep_list, deep_tuple, small_objects

SIZES = (2, 3)
CONTENT = (1, 2)
BOX = ((0,), (1,))
HALF = (1, 2)
STOP = ((-1, (1, 1)),)
THREE = ((0, 1), (0, 1, 2), (0, 2), (1, 2))
RINGED = (((0, 1), (1, 2), (0, 2)), (1, 2, 0))
CHANCES = even_chances(SIZES)
HABIT = habit_of(SIZES, {BOX: HALF, ((1,), (2,)): (1, 3)})
WHOLE_ROW = (((0, 1), (1, 1)),)
BLOCK = (("throw", "a", 2), ("put", "b", 7), ("if", ("name", "a", 1), (("open", 0),), (("again", 2, (("open", 1),)),)),
         ("if", ("cell", 0, 1), (), ()), ("show", (0, 1)))
PROGRAM = Program(SIZES, BLOCK)
CHOOSE = Program(SIZES, (("throw", "a", 2), ("if", ("name", "a", 1), (("open", 0),), ())))
MOVES = {ROOT: ((-1, HALF), (0, HALF)), ((0,), (0,)): STOP, ((0,), (1,)): STOP}
ASKER = Asker(SIZES, MOVES)
BET = {ROOT: (1, 1), BOX: HALF, ((1,), (0,)): (1, 4)}
QUESTION = ((0, 1), (1, 2), (-3, 1), (0, 1), (5, 7), (1, 1))
WEIGHTS = {BOX: (3, 2), ((0, 1), (0, 0)): (-1, 1)}
SHARES = {BOX: HALF, ((1,), (0,)): (1, 3)}
SHOWING = {(0, 0): (0,), (1, 1): (0, 1), (1, 2): (0, 1)}
TREE = ("open", 1, (("stop",), None, ("open", 0, (("stop",), ("stop",)))))
CUTTING = (((0,), (1,)), ((0, 1), (0, 0)), ((0, 1), (0, 1)), ((0, 1), (0, 2)))
POLICY = (False, False)
LINES = [("row", 0), ("throw", 1), ("open", 0, 1), ("show", (0,)), ("row", 1), ("throw", 0)]
BREACH = (CONTENT, (("throw", 1), ("go",), ("fall",), ("throw", 0), ("go",)))
RULES = {(0,): (((), HALF), ((0,), HALF)), (1,): (((1,), (1, 1)),), (0, 1): (((0, 1), (1, 1)),)}


def call_of_book(name):
    """A call of a method of a book that holds a row and answers a question."""
    def call(*arguments):
        book = Book(HABIT)
        book.put(BOX)
        book.ask("a", QUESTION)
        getattr(book, name)(*arguments)
    return call


def call_of_keeper(name):
    def call(*arguments):
        keeper = Keeper(CHOOSE, POLICY)
        keeper.put(CONTENT)
        getattr(keeper, name)(*arguments)
    return call


# Each call with right arguments, and for each of these the errors that may be named for it; None where none is.
CALLS = [
    (contents, (SIZES,), ["BadSizes"]), (is_box, (SIZES, BOX), ["BadSizes", "flag"]),
    (box_at, (SIZES, (0,), CONTENT), ["BadSizes NoPattern NoContent", "NoPattern", "NoContent"]),
    (in_box, (SIZES, BOX), ["BadSizes NoBox", "NoBox"]), (both, (SIZES, BOX, ROOT), ["BadSizes NoBox", "NoBox", "NoBox"]),
    (is_list, (3, THREE), ["NoNumber", "flag"]),
    (Habit, ((2,), (WHOLE_ROW[:0] + (((0,), (1, 1)),), (((), HALF), ((0,), HALF)))), ["BadHabit", "BadHabit"]),
    (share, (HABIT, (0,), CONTENT), [None, "NoPattern", "NoContent"]),
    (is_fair, (HABIT,), ["flag"]), (habit_of, (SIZES, SHARES), ["BadSizes NoShares TooMuch", "NoShares TooMuch"]),
    (share_behind, (HABIT, CHANCES, BOX, CONTENT), [None, "NoChances", "NoBox NeverShown", "NoContent"]),
    (share_struck, (HABIT, CHANCES, BOX, CONTENT), [None, "NoChances", "NoBox NeverShown", "NoContent"]),
    (wrong_share, (HABIT, CHANCES), [None, "NoChances"]),
    (mixed, (HABIT, HABIT, HALF), [None, "OtherSizes", "NoShare"]), (hidden_again, (HABIT, RULES), [None, "NoRules"]),
    (renamed, (HABIT, (1, 0)), [None, "NoColumns"]),
    (Program, (SIZES, BLOCK), ["BadProgram", "BadProgram"]),
    (run, (PROGRAM, CONTENT, (1, 0)), [None, "NoContent", "NoThrows"]), (is_blind, (PROGRAM,), ["flag"]),
    (peeks, (PROGRAM, CHANCES), [None, "NoChances"]), (alike, (PROGRAM, PROGRAM), [None, "OtherSizes"]),
    (Asker, (SIZES, MOVES), ["BadAsker", "BadAsker"]), (coming, (ASKER, BOX), [None, "NoBox"]),
    (opened, (ASKER, CHANCES), [None, "NoChances"]),
    (nests, (3, THREE), ["NoNumber NoList", "NoList"]), (order, (3, THREE), ["NoNumber NoList", "NoList"]),
    (many_orders, (3, THREE), ["NoNumber NoList", "NoList"]), (ring, (3, THREE), ["NoNumber NoList", "NoList"]),
    (is_ring, (3, THREE, RINGED), ["NoNumber NoList", "NoList", "flag"]),
    (given_up, (3, THREE), ["NoNumber NoList", "NoList"]),
    (is_bet, (SIZES, BET), ["BadSizes", "flag"]), (pays, (BET, asker_habit(ASKER)), ["NoBet", None]),
    (ring_habit, ((2, 2, 2), RINGED), ["BadSizes NoRing", "NoRing"]),
    (ring_bet, ((2, 2, 2), RINGED), ["BadSizes NoRing", "NoRing"]),
    (is_enough, (3, THREE, (0,)), ["NoNumber NoList", "NoList", "flag"]),
    (trusts, (3, THREE), ["NoNumber NoList", "NoList"]), (behind, (HABIT, (0,)), [None, "NoPattern"]),
    (is_fair_showing, (SIZES, SHOWING), ["BadSizes", "flag"]),
    (shown_by, (SIZES, TREE, CONTENT), ["BadSizes NoTree NoContent", "NoTree", "NoContent"]),
    (tree_of, (SIZES, SHOWING), ["BadSizes NoShowing", "NoShowing"]),
    (stuck, (SIZES, SHOWING), ["BadSizes NoShowing", "NoShowing"]),
    (unlike_pair, (3, THREE), ["NoNumber NoList", "NoList"]),
    (pair_showing, (SIZES, ((0,), (1,))), ["BadSizes NoPair", "NoPair"]), (cuttings, ((2, 2),), ["BadSizes TooMany"]),
    (showing_of, (SIZES, CUTTING), ["BadSizes NoCutting", "NoCutting"]),
    (is_telling, (HABIT, QUESTION, WEIGHTS), [None, "NoQuestion", "flag"]),
    (weights_for, (HABIT, QUESTION), [None, "NoQuestion"]), (two_chances, (HABIT, QUESTION), [None, "NoQuestion"]),
    (mean, (HABIT, WEIGHTS, CHANCES), [None, "NoWeights", "NoChances"]),
    (spread, (HABIT, WEIGHTS, CHANCES), [None, "NoWeights", "NoChances"]),
    (spread_of_rows, (HABIT, WEIGHTS, [CONTENT, (0, 0)]), [None, "NoWeights", "NoRows"]),
    (call_of_book("put"), (BOX,), ["NoBox NeverShown"]), (call_of_book("take"), (0,), ["NoNumber"]),
    (call_of_book("exchange"), (0, BOX), ["NoNumber", "NoBox NeverShown"]),
    (call_of_book("ask"), ("b", QUESTION), ["NoName", "NoQuestion NotTold"]), (call_of_book("drop"), ("a",), ["NoName"]),
    (call_of_book("answer"), ("a",), ["NoName"]),
    (Keeper, (CHOOSE, POLICY), [None, "NoPolicy"]), (call_of_keeper("put"), (CONTENT,), ["NoContent"]),
    (call_of_keeper("throw"), (1,), ["NoNumber"]), (call_of_keeper("shown"), (0,), ["NoNumber"]),
    (call_of_keeper("looked"), (0,), ["NoNumber"]),
    (risen, (CHOOSE, POLICY, [CONTENT, (0, 0)], LINES), [None, "NoPolicy", "NoRows BadLog", "BadLog"]),
    (breach, (CHOOSE, POLICY), [None, "NoPolicy"]), (is_breach, (CHOOSE, POLICY, BREACH), [None, "NoPolicy", "flag"]),
    (sway, (CHOOSE, POLICY, CONTENT, (0,), 2), [None, "NoPolicy", "NoContent", "NoPattern", "NoNumber"]),
    (log_text, (LINES,), ["NoRows"]), (read_program, ("sizes 2\nopen 0",), ["BadText BadProgram"]),
    (read_shares, ("sizes 2\n- 1/2",), ["BadText BadSizes NoShares TooMuch"]), (read_log, ("row 0",), ["BadText"]),
]


def anything(chance):
    return chance.choice([
        None, True, False, -1, 0, 1, 2, 4, 7, 10 ** 59, -(10 ** 59), "", "a", "open", "\n", b"", b"a", (), [], {}, (0,), [0],
        (0, 1), (1, 2), (True, False), "stop", ("stop",), (None,), ((),), ((), ()), {0: 0}, {(): ()}, {BOX: (1, 1)}, range(2),
        object(), len, int, Habit, Ellipsis, NotImplemented, bytearray(b"a"), ValueError("a"), errors.BadSizes(), slice(1),
        *small_objects(), deep_list(30), deep_tuple(30), deep_dict(30)])


def spoiled(thing, chance):
    """A thing with something in it that is another, or of another kind, or lacks, or is there twice."""
    if isinstance(thing, (tuple, list)) and thing and chance.random() < 0.8:
        at = chance.randrange(len(thing))
        kind = chance.choice(["within"] * 6 + ["lacks", "twice", "turned"])
        found = list(thing)
        if kind == "within":
            found[at] = spoiled(found[at], chance)
        elif kind == "lacks":
            found.pop(at)
        elif kind == "twice":
            found.insert(at, found[at])
        else:
            found.reverse()
        return type(thing)(found)
    if isinstance(thing, dict) and thing and chance.random() < 0.8:
        key = chance.choice(list(thing))
        rest = {other: thing[other] for other in thing if other != key}
        kind = chance.choice(["key", "value", "value", "lacks"])
        if kind == "key":
            return {**rest, right_key(spoiled(key, chance)): thing[key]}
        return {**rest, key: spoiled(thing[key], chance)} if kind == "value" else rest
    if isinstance(thing, (tuple, list)) and chance.random() < 0.3:
        return list(thing) if isinstance(thing, tuple) else tuple(thing)
    if type(thing) is int and chance.random() < 0.5:
        return chance.choice([bool(thing), thing + 1, thing - 1, -thing, str(thing), (thing,), [thing], 10 ** 59 + thing])
    if isinstance(thing, str) and chance.random() < 0.5:
        at = chance.randrange(len(thing) + 1)
        return thing[:at] + chance.choice([" ", "\n", "0", "a", "A", "", "=", "/"]) + thing[at + chance.randint(0, 1):]
    return anything(chance)


def right_key(thing):
    """A thing that may be a key: neither a flag nor with one within."""
    if isinstance(thing, bool) or not isinstance(thing, (int, str, bytes, tuple)):
        return "key"
    if isinstance(thing, tuple):
        return tuple(right_key(inner) for inner in thing)
    return thing


class Anything(unittest.TestCase):
    def assert_let(self, call, arguments, at, told):
        try:
            found = call(*arguments)
        except errors.MaskError as error:
            self.assertIn(type(error).__name__, told.split(), (call, arguments[at]))
        else:
            if told == "flag":
                self.assertIs(type(found), bool)

    def test_each_argument_may_be_anything(self):
        chance = random.Random(1)
        for call, arguments, errors_of in CALLS:
            for at, told in enumerate(errors_of):
                for _ in range(150 if told else 0):
                    thing = chance.choice([spoiled, lambda right, by: anything(by)])(arguments[at], chance)
                    self.assert_let(call, arguments[:at] + (thing,) + arguments[at + 1:], at, told)

    def test_the_right_arguments_are_let(self):
        for call, arguments, _ in CALLS:
            call(*arguments)

    def test_arguments_are_not_changed(self):
        chance = random.Random(2)
        for call, arguments, errors_of in CALLS:
            for at, told in enumerate(errors_of):
                for _ in range(20 if told else 0):
                    seed = chance.random()
                    thing, same = [spoiled(arguments[at], random.Random(seed)) for _ in range(2)]
                    if repr(thing) == repr(same):
                        self.assert_let(call, arguments[:at] + (thing,) + arguments[at + 1:], at, told)
                        self.assertEqual(repr(thing), repr(same))


if __name__ == "__main__":
    unittest.main()
