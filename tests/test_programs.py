import random
import unittest

from fairmasks.errors import BadProgram
from fairmasks.programs import Program
from makers import SIZES, random_block
from samples import deep_dict, deep_list, deep_tuple, small_habit, strangers

OPEN = ("open", 0)
IS_ONE = ("cell", 0, 1)


def nested(depth, kind, inner=(OPEN,)):
    """A block whose deepest statement stands so deep."""
    block = inner
    for _ in range(depth - 1):
        block = ((("again", 1, block),) if kind == "again" else
                 (("if", IS_ONE, block, ()),) if kind == "yes" else (("if", IS_ONE, (), block),))
    return block


class Making(unittest.TestCase):
    def test_attributes(self):
        block = (OPEN, ("if", ("name", "a", 3), (("show", (0, 1)),), ()))
        program = Program((2, 3), block)
        self.assertEqual(program.sizes, (2, 3))
        self.assertEqual(program.block, block)

    def test_right_statements(self):
        for statement in [
                ("open", 0), ("open", 1), ("throw", "a", 2), ("throw", "abcdefgh", 12), ("throw", "z", 7),
                ("put", "a", 0), ("put", "zz", 10 ** 60), ("if", ("cell", 0, 0), (), ()), ("if", ("cell", 1, 2), (), ()),
                ("if", ("name", "a", 0), (), ()), ("if", ("name", "open", 10 ** 60), (OPEN,), (OPEN, OPEN)),
                ("again", 0, ()), ("again", 8, (OPEN,)), ("show", ()), ("show", (0,)), ("show", (0, 1)),
                ("again", 3, (("again", 3, (("show", (1,)),)),))]:
            self.assertEqual(Program((2, 3), (statement,)).block, (statement,))
        self.assertEqual(Program((2, 3), ()).block, ())

    def test_one_and_five_columns(self):
        for sizes in [(2,), (4,), (2, 2, 2, 2, 2), (4, 4, 4, 2, 2)]:
            last = len(sizes) - 1
            block = (("open", last), ("if", ("cell", last, sizes[last] - 1), (), ()), ("show", tuple(range(last + 1))))
            self.assertEqual(Program(sizes, block).block, block)
            for wrong in [("open", last + 1), ("if", ("cell", last, sizes[last]), (), ()), ("show", (last + 1,)),
                          ("if", ("cell", last + 1, 0), (), ())]:
                self.assert_bad("block", sizes, (wrong,))

    def test_wrong_sizes(self):
        for sizes in strangers() + [(), (1,), (5,), (2, 2, 2, 2, 2, 2), (4, 4, 4, 4, 2), (True, 2), [2, 2]]:
            self.assert_bad("sizes", sizes, ())
            self.assert_bad("sizes", sizes, None)

    def test_wrong_blocks(self):
        for block in [thing for thing in strangers() if thing != ()] + [
                [], [OPEN], OPEN, ("open",), (OPEN, None), (OPEN, [OPEN]), (OPEN, (OPEN,)), ((),), ((("open", 0),),),
                {0: OPEN}, "open", range(0), b"", Program((2,), ()), (Program((2,), ()),), (deep_tuple(39),),
                (deep_list(39),), (OPEN, deep_dict(39))]:
            self.assert_bad("block", (2, 3), block)

    def test_wrong_opens(self):
        for column in strangers_but(0, 1) + [2, -1, True, False, "0", None, (0,), [0], 10 ** 59, b"0"]:
            self.assert_bad("block", (2, 3), (("open", column),))
        for statement in [("open",), ("open", 0, 0), ["open", 0], ("Open", 0), (b"open", 0), ("opens", 0), (None, 0),
                          ("", 0), (0, "open"), ("open", 0, ()), ((), 0), ({}, 0), ([], 0), (open, 0)]:
            self.assert_bad("block", (2, 3), (statement,))

    def test_wrong_names(self):
        for name in ["", "A", "aB", "a1", "a b", "abcdefghi", "a\n", " a", "_", "-", "{", "`", "~", None, 0, True, b"a",
                     ("a",), ["a"], {}, deep_tuple(38), "a" * 1000, ()]:
            for statement in [("throw", name, 2), ("put", name, 0), ("if", ("name", name, 0), (), ())]:
                self.assert_bad("block", (2, 3), (statement,))

    def test_wrong_throws(self):
        for most in strangers_but(2, 3, 6) + [0, 1, 13, -2, True, "2", None, (2,), [2], 10 ** 59]:
            self.assert_bad("block", (2, 3), (("throw", "a", most),))
        for statement in [("throw",), ("throw", "a"), ("throw", 2, "a"), ("throw", "a", 2, 2), ["throw", "a", 2]]:
            self.assert_bad("block", (2, 3), (statement,))

    def test_wrong_puts(self):
        for number in [-1, True, False, None, "1", (1,), [1], -(10 ** 59), b"1", deep_list(38), small_habit()]:
            self.assert_bad("block", (2, 3), (("put", "a", number),))
            self.assert_bad("block", (2, 3), (("if", ("name", "a", number), (), ()),))
        for statement in [("put",), ("put", "a"), ("put", 0, "a"), ("put", "a", 0, 0), ["put", "a", 0]]:
            self.assert_bad("block", (2, 3), (statement,))

    def test_wrong_tests(self):
        for test in strangers() + [
                ("cell", 0), ("cell", 0, 0, 0), ["cell", 0, 0], ("cell", 2, 0), ("cell", -1, 0), ("cell", 0, 2),
                ("cell", 1, 3), ("cell", 0, -1), ("cell", True, 0), ("cell", 0, False), ("cell", None, 0),
                ("cell", 0, None), ("cell", "a", 0), ("cells", 0, 0), ("", 0, 0), (b"cell", 0, 0), ("name", 0, 0),
                ("name", "a"), (None, 0, 0), ("open", 0, 0), (("cell",), 0, 0), "abc", ("cell", 10 ** 59, 0),
                ("names", "a", 0), ("", "a", 0), ("put", "a", 0), (b"name", "a", 0), (None, "a", 0)]:
            self.assert_bad("block", (2, 3), (("if", test, (), ()),))

    def test_wrong_ifs(self):
        for block in [thing for thing in strangers() if thing != ()] + [[], [OPEN], OPEN, None, (None,), (("open", 9),)]:
            self.assert_bad("block", (2, 3), (("if", IS_ONE, block, ()),))
            self.assert_bad("block", (2, 3), (("if", IS_ONE, (), block),))
        for statement in [("if",), ("if", IS_ONE), ("if", IS_ONE, ()), ("if", IS_ONE, (), (), ()), ("if", (), (), IS_ONE),
                          ["if", IS_ONE, (), ()]]:
            self.assert_bad("block", (2, 3), (statement,))

    def test_wrong_agains(self):
        for many in strangers_but(0, 1, 2, 3, 6) + [9, -1, True, False, "1", None, (1,), [1], 10 ** 59]:
            self.assert_bad("block", (2, 3), (("again", many, ()),))
        for block in [thing for thing in strangers() if thing != ()] + [[], [OPEN], OPEN, None, (("open", 9),)]:
            self.assert_bad("block", (2, 3), (("again", 0, block),))
        for statement in [("again",), ("again", 1), ("again", (), 1), ("again", 1, (), ()), ["again", 1, ()]]:
            self.assert_bad("block", (2, 3), (statement,))

    def test_wrong_shows(self):
        for pattern in [thing for thing in strangers() if thing != ()] + [
                (2,), (0, 0), (1, 0), (-1,), (True,), (0, True), [0], [], "0", None, 0, (0, 1, 2), {0: 0}]:
            self.assert_bad("block", (2, 3), (("show", pattern),))
        for statement in [("show",), ("show", 0), ("show", 0, 1), ("show", (0,), (1,)), ["show", (0,)],
                          ("shows", (0,)), ("hide", ()), ("", (0,)), (0, (0,)), (b"show", (0,)), (None, ())]:
            self.assert_bad("block", (2, 3), (statement,))

    def test_a_wrong_statement_at_whatever_depth(self):
        for kind in ("again", "yes", "no"):
            for depth in range(1, 19):
                for wrong in [(("open", 2),), [], (None,), (("put", "a", True),)]:
                    self.assert_bad("block", (2, 3), nested(depth, kind, wrong))

    def assert_bad(self, part, sizes, block):
        with self.assertRaises(BadProgram) as caught:
            Program(sizes, block)
        self.assertEqual(caught.exception.part, part)


def strangers_but(*things):
    return [thing for thing in strangers() if isinstance(thing, bool) or thing not in things]


class Limits(unittest.TestCase):
    def assert_part(self, part, block):
        if part is None:
            self.assertEqual(Program((2, 3), block).block, block)
        else:
            with self.assertRaises(BadProgram) as caught:
                Program((2, 3), block)
            self.assertEqual(caught.exception.part, part)

    def test_sixty_statements_and_one_more(self):
        self.assert_part(None, (OPEN,) * 60)
        self.assert_part("size", (OPEN,) * 61)
        self.assert_part("size", (OPEN,) * 1000)

    def test_all_within_are_counted(self):
        for inner in range(61):
            self.assert_part(None, (("again", 1, (OPEN,) * inner),) + (OPEN,) * (59 - inner) if inner < 60 else ())
            self.assert_part("size", (("again", 1, (OPEN,) * inner),) + (OPEN,) * (60 - inner))
        self.assert_part(None, (("if", IS_ONE, (OPEN,) * 29, (OPEN,) * 30),))
        self.assert_part("size", (("if", IS_ONE, (OPEN,) * 30, (OPEN,) * 30),))
        self.assert_part("size", (("if", IS_ONE, (), (OPEN,) * 60),))
        self.assert_part("size", (("again", 0, (OPEN,) * 60),))
        block = nested(5, "again", (OPEN,) * 56)
        self.assert_part(None, block)
        self.assert_part("size", nested(5, "again", (OPEN,) * 57))

    def test_tests_are_no_statements(self):
        self.assert_part(None, (("if", IS_ONE, (), ()),) * 60)
        self.assert_part("size", (("if", IS_ONE, (), ()),) * 61)

    def test_six_deep_and_seven(self):
        for kind in ("again", "yes", "no"):
            for depth in range(1, 7):
                self.assert_part(None, nested(depth, kind))
            for depth in range(7, 19):
                self.assert_part("deep", nested(depth, kind))
            self.assert_part(None, (OPEN,) + nested(6, kind))
            self.assert_part("deep", (OPEN, OPEN) + nested(7, kind) + (OPEN,))

    def test_empty_blocks_add_no_depth(self):
        self.assert_part(None, nested(6, "again", (("if", IS_ONE, (), ()),)))
        self.assert_part("deep", nested(7, "again", (("again", 1, ()),)))

    def test_the_first_part_is_named(self):
        deep = nested(7, "again")
        self.assert_part("size", (OPEN,) * 60 + deep)
        self.assert_part("size", nested(7, "yes", (OPEN,) * 60))
        self.assert_part("block", (OPEN,) * 61 + (None,))
        self.assert_part("block", deep + (("open", 2),))
        self.assert_part("block", nested(7, "no", (OPEN,) * 61 + ([],)))
        with self.assertRaises(BadProgram) as caught:
            Program([2], nested(7, "no", (OPEN,) * 61 + ([],)))
        self.assertEqual(caught.exception.part, "sizes")


class Equality(unittest.TestCase):
    def test_equal_if_sizes_and_blocks_are(self):
        chance = random.Random(1)
        for _ in range(50):
            sizes = chance.choice(SIZES)
            block = random_block(sizes, chance, 4, 20)
            self.assertIs(Program(sizes, block) == Program(sizes, block), True)
            self.assertIs(Program(sizes, block) != Program(sizes, block), False)
            self.assertIs(Program(sizes, block) == Program(sizes, block + (("open", 0),)), False)
        self.assertIs(Program((2, 2), ()) == Program((2, 3), ()), False)

    def test_programs_that_do_the_same_may_be_unlike(self):
        self.assertIs(Program((2,), (OPEN,)) == Program((2,), (OPEN, OPEN)), False)

    def test_equal_to_nothing_else(self):
        program = Program((4,), ())
        for thing in strangers() + [((4,), ()), (4,), ()]:
            self.assertIs(program == thing, False)
            self.assertIs(thing == program, False)
            self.assertIs(program != thing, True)

    def test_equal_to_nothing_of_a_class_with_the_same_attributes(self):
        class Other:
            sizes = (2,)
            block = ()
        self.assertIs(Program((2,), ()) == Other(), False)


if __name__ == "__main__":
    unittest.main()
