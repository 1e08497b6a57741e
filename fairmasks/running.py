"""What programs do: a single run, and all runs of a program."""

from fairmasks.amounts import times, total
from fairmasks.chances import is_chances
from fairmasks.courses import Course, endings_of, is_blind_course, row_of
from fairmasks.errors import NoChances, NoContent, NoThrows, OtherSizes
from fairmasks.habits import Habit
from fairmasks.programs import Program, is_number
from fairmasks.rows import all_contents, is_content


class Walk:
    """A run of a program: what it has opened, in its order, how many throws it used, and what its names hold."""

    def __init__(self, content, throws):
        self.content = content
        self.throws = throws
        self.seen = []
        self.used = 0
        self.numbers = {}
        self.result = None

    def look(self, column):
        """Open a column, if it is not open, and tell what stands in it."""
        if column not in self.seen:
            self.seen.append(column)
        return self.content[column]

    def throw(self, most):
        """The next throw, below this."""
        if self.used >= len(self.throws) or self.throws[self.used] >= most:
            raise NoThrows()
        self.used += 1
        return self.throws[self.used - 1]

    def show(self, pattern):
        """Show a pattern, with which the run ends."""
        for column in pattern:
            self.look(column)
        self.result = pattern

    def holds(self, test):
        """Whether a test is so."""
        kind, asked, number = test
        if kind == "cell":
            return self.look(asked) == number
        return self.numbers.get(asked, 0) == number

    def through(self, block):
        """Go through a block, up to its end or that of the run."""
        for statement in block:
            if self.result is not None:
                break
            self.step(statement)

    def step(self, statement):
        """Do a statement."""
        kind = statement[0]
        if kind == "open":
            self.look(statement[1])
        elif kind == "throw":
            self.numbers[statement[1]] = self.throw(statement[2])
        elif kind == "put":
            self.numbers[statement[1]] = statement[2]
        elif kind == "if":
            self.through(statement[2] if self.holds(statement[1]) else statement[3])
        elif kind == "again":
            self.repeat(statement[1], statement[2])
        else:
            self.show(statement[1])

    def repeat(self, most, block):
        """Go through a block so many times."""
        for _ in range(most):
            before = self.state()
            self.through(block)
            # What changes nothing once changes nothing any more.
            if self.state() == before:
                break

    def state(self):
        """All by which going on may differ."""
        return (len(self.seen), self.used, self.result, {name: self.numbers[name] for name in self.numbers})


def is_number_row(thing):
    """Whether a thing is a list or tuple of numbers."""
    return isinstance(thing, (list, tuple)) and all([is_number(number) for number in thing])


def run(program, content, throws):
    """The triple (pattern shown, columns in the order in which they were opened, number of throws used)."""
    if not is_content(program.sizes, content):
        raise NoContent()
    if not is_number_row(throws):
        raise NoThrows()
    walk = Walk(content, throws)
    walk.through(program.block)
    if walk.result is None:
        walk.show(tuple(sorted(walk.seen)))
    return (walk.result, tuple(walk.seen), walk.used)


def habit_by(program):
    """The habit of a program."""
    course = Course(program)
    return Habit(program.sizes, tuple([row_of(course, content) for content in all_contents(program.sizes)]))


def is_blind(program):
    """Whether a thing is a program of which no run opens a column that it does not show."""
    return isinstance(program, Program) and is_blind_course(Course(program))


def peeks(program, chances):
    """The mean number of columns that are opened and not shown."""
    if not is_chances(program.sizes, chances):
        raise NoChances()
    course = Course(program)
    parts = []
    for content, chance in zip(all_contents(program.sizes), chances):
        for pattern, shown, part in endings_of(course, content):
            parts.append(times(chance, times(part, (len(pattern) - len(shown), 1))))
    return total(parts)


def alike(program, other):
    """Whether the habits of two programs are equal."""
    if not isinstance(other, Program) or program.sizes != other.sizes:
        raise OtherSizes()
    return habit_by(program) == habit_by(other)
