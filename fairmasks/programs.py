"""Programs that mask: sizes and a block of statements."""

from fairmasks.amounts import is_whole
from fairmasks.errors import BadProgram
from fairmasks.rows import is_pattern, is_sizes

MOST_STATEMENTS = 60
MOST_DEPTH = 6
MOST_LETTERS = 8
LEAST_THROW = 2
MOST_THROW = 12
MOST_TIMES = 8


class Program:
    """A block of statements that opens and shows columns of rows of these sizes."""

    def __init__(self, sizes, block):
        if not is_sizes(sizes):
            raise BadProgram("sizes")
        if not is_block(sizes, block):
            raise BadProgram("block")
        if many_statements(block) > MOST_STATEMENTS:
            raise BadProgram("size")
        if depth_of(block) > MOST_DEPTH:
            raise BadProgram("deep")
        self.sizes = sizes
        self.block = block

    def __eq__(self, other):
        return isinstance(other, Program) and self.sizes == other.sizes and self.block == other.block


def is_block(sizes, thing):
    """Whether a thing is a tuple of statements."""
    return isinstance(thing, tuple) and all([is_statement(sizes, statement) for statement in thing])


def is_statement(sizes, thing):
    """Whether a thing is a statement, with such blocks within."""
    if not isinstance(thing, tuple) or not thing or not isinstance(thing[0], str):
        return False
    kind = thing[0]
    if kind == "open":
        return len(thing) == 2 and is_number_in(thing[1], 0, len(sizes) - 1)
    if kind == "throw":
        return len(thing) == 3 and is_name(thing[1]) and is_number_in(thing[2], LEAST_THROW, MOST_THROW)
    if kind == "put":
        return len(thing) == 3 and is_name(thing[1]) and is_number(thing[2])
    if kind == "if":
        return len(thing) == 4 and is_test(sizes, thing[1]) and is_block(sizes, thing[2]) and is_block(sizes, thing[3])
    if kind == "again":
        return len(thing) == 3 and is_number_in(thing[1], 0, MOST_TIMES) and is_block(sizes, thing[2])
    return kind == "show" and len(thing) == 2 and is_pattern(len(sizes), thing[1])


def is_test(sizes, thing):
    """Whether a thing is what an if asks for."""
    if not isinstance(thing, tuple) or len(thing) != 3 or not isinstance(thing[0], str):
        return False
    kind, asked, worth = thing
    if kind == "cell":
        return is_number_in(asked, 0, len(sizes) - 1) and is_number_in(worth, 0, sizes[asked] - 1)
    return kind == "name" and is_name(asked) and is_number(worth)


def is_name(thing):
    """Whether a thing is a string of 1 to 8 letters from a to z."""
    if not isinstance(thing, str) or not 1 <= len(thing) <= MOST_LETTERS:
        return False
    return all(["a" <= letter <= "z" for letter in thing])


def is_number(thing):
    """Whether a thing is an integer from 0 on."""
    return is_whole(thing) and thing >= 0


def is_number_in(thing, least, most):
    """Whether a thing is an integer within these bounds."""
    return is_whole(thing) and least <= thing <= most


def blocks_in(statement):
    """The blocks that stand straight within a statement."""
    if statement[0] == "if":
        return [statement[2], statement[3]]
    if statement[0] == "again":
        return [statement[2]]
    return []


def many_statements(block):
    """How many statements a block has, all within counted."""
    many = len(block)
    for statement in block:
        many = many + sum([many_statements(inner) for inner in blocks_in(statement)])
    return many


def depth_of(block):
    """How deep the deepest statement of a block stands; those of the block are 1 deep."""
    deepest = 0
    for statement in block:
        deepest = max([deepest, 1] + [1 + depth_of(inner) for inner in blocks_in(statement)])
    return deepest


def names_in(block):
    """The list of the names in a block, each once."""
    found = {}
    for statement in block:
        if statement[0] in ("throw", "put"):
            found[statement[1]] = True
        if statement[0] == "if" and statement[1][0] == "name":
            found[statement[1][1]] = True
        for inner in blocks_in(statement):
            for name in names_in(inner):
                found[name] = True
    return list(found)
