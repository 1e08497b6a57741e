"""Programs, fair habits and logs written as texts."""

from fairmasks.errors import NoRows
from fairmasks.habits import box_shares
from fairmasks.lines import is_line

# So many digits at once, as Python refuses to write very long numbers.
DIGITS = 64
PIECE = 10 ** 64


def decimal(number):
    """The digits of a number."""
    pieces = []
    while number >= PIECE:
        number, rest = divmod(number, PIECE)
        pieces.append(str(rest).zfill(DIGITS))
    pieces.append(str(number))
    return "".join(pieces[::-1])


def words(word, numbers):
    """A line of a word and the numbers behind it."""
    return " ".join([word] + [decimal(number) for number in numbers])


def program_text(program):
    """The text of a program."""
    return "\n".join([words("sizes", program.sizes)] + lines_of(program.block))


def lines_of(block):
    """The list of the lines of a block."""
    found = []
    for statement in block:
        kind = statement[0]
        if kind == "if":
            found.append(line_of_test(statement[1]))
            found.extend(lines_of(statement[2]) + ["else"] + lines_of(statement[3]) + ["end"])
        elif kind == "again":
            found.append(words(kind, [statement[1]]))
            found.extend(lines_of(statement[2]) + ["end"])
        elif kind == "show":
            found.append(words(kind, statement[1]))
        elif kind == "open":
            found.append(words(kind, [statement[1]]))
        else:
            found.append(words(kind + " " + statement[1], [statement[2]]))
    return found


def line_of_test(test):
    """The line of what an if asks for."""
    kind, asked, number = test
    if kind == "cell":
        return words(kind, [asked, number])
    return words(kind + " " + asked, [number])


def shares_text(habit):
    """The text of the shares of boxes of a fair habit."""
    lines = [words("sizes", habit.sizes)]
    for box, part in sorted(box_shares(habit).items()):
        lines.append(" ".join(words_of_box(box) + [decimal(part[0]) + "/" + decimal(part[1])]))
    return "\n".join(lines)


def words_of_box(box):
    """The list of the words that tell the columns of a box with their worths."""
    return [decimal(column) + "=" + decimal(worth) for column, worth in zip(box[0], box[1])] or ["-"]


def log_text(lines):
    """The text of a row of lines of any keeper."""
    if not isinstance(lines, (list, tuple)) or not all([is_line(line) for line in lines]):
        raise NoRows()
    return "\n".join([words(line[0], line[1] if line[0] == "show" else line[1:]) for line in lines])
