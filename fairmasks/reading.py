"""Programs, fair habits and logs read from texts."""

from fairmasks.amounts import ZERO, is_share
from fairmasks.errors import BadProgram, BadText
from fairmasks.habits import habit_of
from fairmasks.lines import is_line
from fairmasks.programs import MOST_STATEMENTS, Program, is_block, is_name
from fairmasks.rows import is_sizes

MOST_DIGITS = 9
MOST_DIGITS_OF_SHARES = 40


def lines_in(text):
    """The list of the lines of a text."""
    if not isinstance(text, str):
        raise BadText(0)
    return text.split("\n")


def is_written(word, most):
    """Whether a word is a number of at most so many digits, without a needless 0."""
    if not 1 <= len(word) <= most or not all(["0" <= sign <= "9" for sign in word]):
        return False
    return word == "0" or word[0] != "0"


def numbers_in(words):
    """The tuple of the numbers that words are, or None if one is none."""
    if not all([is_written(word, MOST_DIGITS) for word in words]):
        return None
    return tuple([int(word) for word in words])


def sizes_in(line):
    """What stands behind the word of the first line of a text, sizes or not."""
    words = line.split(" ")
    numbers = numbers_in(words[1:])
    if words[0] != "sizes" or numbers is None:
        raise BadText(1)
    return numbers


class BlockReader:
    """Statements as they are read; flat has all of them, one behind another, with nothing within."""

    def __init__(self):
        self.flat = []
        # The statements that have no end yet, each with the lists of what stands in its blocks; first the program.
        self.around = [(("program",), [[]])]

    def is_ended(self):
        """Whether no statement lacks its end."""
        return len(self.around) == 1

    def take_line(self, line):
        """Take the next line; tell whether it can stand here."""
        if line == "else":
            return self.take_else()
        if line == "end":
            return self.take_end()
        statement = statement_in(line.split(" "))
        if statement is None:
            return False
        self.flat.append(statement)
        if statement[0] in ("if", "again"):
            self.around.append((statement, [[]]))
        else:
            self.put_statement(statement)
        return True

    def take_else(self):
        """Begin the second block of an if; tell whether there is one that has none."""
        statement, blocks = self.around[-1]
        if statement[0] != "if" or len(blocks) > 1:
            return False
        blocks.append([])
        return True

    def take_end(self):
        """End a statement; tell whether there is one, with all its blocks."""
        statement, blocks = self.around[-1]
        if (statement[0], len(blocks)) not in (("if", 2), ("again", 1)):
            return False
        self.around.pop()
        self.put_statement(statement[:2] + tuple([tuple(block) for block in blocks]))
        return True

    def put_statement(self, statement):
        """Put a whole statement behind the others of its block."""
        self.around[-1][1][-1].append(statement)

    def whole_block(self):
        """The block of all statements."""
        return tuple(self.around[0][1][0])


def statement_in(words):
    """The statement that a line of these words begins, with nothing within, or None."""
    kind = words[0]
    if kind in ("throw", "put", "name"):
        return named_in(words)
    numbers = numbers_in(words[1:])
    if numbers is None:
        return None
    if kind == "show":
        return (kind, numbers)
    if kind == "open" and len(numbers) == 1:
        return (kind, numbers[0])
    if kind == "again" and len(numbers) == 1:
        return (kind, numbers[0], ())
    if kind == "cell" and len(numbers) == 2:
        return ("if", (kind, numbers[0], numbers[1]), (), ())
    return None


def named_in(words):
    """The statement that a line with a name begins, or None."""
    if len(words) != 3 or not is_name(words[1]) or not is_written(words[2], MOST_DIGITS):
        return None
    kind, name, _ = words
    number = int(words[2])
    if kind == "name":
        return ("if", (kind, name, number), (), ())
    return (kind, name, number)


def read_program(text):
    """The program that a text tells."""
    lines = lines_in(text)
    sizes = sizes_in(lines[0])
    reader = BlockReader()
    for at, line in enumerate(lines[1:]):
        if not reader.take_line(line):
            raise BadText(at + 2)
    if not reader.is_ended():
        raise BadText(len(lines) + 1)
    if not is_sizes(sizes):
        raise BadProgram("sizes")
    # Each statement by itself: a text may stand deeper than can be gone through.
    if not is_block(sizes, tuple(reader.flat)):
        raise BadProgram("block")
    if len(reader.flat) > MOST_STATEMENTS:
        raise BadProgram("size")
    return Program(sizes, reader.whole_block())


def read_shares(text):
    """The fair habit whose shares of boxes a text tells."""
    lines = lines_in(text)
    sizes = sizes_in(lines[0])
    shares = {}
    last = None
    for at, line in enumerate(lines[1:]):
        words = line.split(" ")
        box = box_in(words[:-1])
        part = share_in(words[-1])
        if box is None or part is None or (last is not None and not last < box):
            raise BadText(at + 2)
        shares[box] = part
        last = box
    return habit_of(sizes, shares)


def box_in(words):
    """The pair of the columns and the worths that words tell, or None."""
    if words == ["-"]:
        return ((), ())
    pairs = [numbers_in(word.split("=")) for word in words]
    if not pairs or not all([pair is not None and len(pair) == 2 for pair in pairs]):
        return None
    return (tuple([column for column, _ in pairs]), tuple([worth for _, worth in pairs]))


def share_in(word):
    """The share above 0 that a word tells, or None."""
    parts = word.split("/")
    if len(parts) != 2 or not all([is_written(part, MOST_DIGITS_OF_SHARES) for part in parts]):
        return None
    found = (int(parts[0]), int(parts[1]))
    return found if is_share(found) and found != ZERO else None


def read_log(text):
    """The list of the lines of a keeper that a text tells."""
    lines = lines_in(text)
    if text == "":
        return []
    found = []
    for at, line in enumerate(lines):
        words = line.split(" ")
        numbers = numbers_in(words[1:])
        if numbers is None:
            raise BadText(at + 1)
        told = (words[0], numbers) if words[0] == "show" else (words[0],) + numbers
        if not is_line(told):
            raise BadText(at + 1)
        found.append(told)
    return found
