"""Keepers: they mask rows by a program, and go on from what they have written if they fall."""

from fairmasks.amounts import is_pair
from fairmasks.errors import BadLog, NoContent, NoNumber, NoPolicy, NoRows, NotDue
from fairmasks.lines import is_line
from fairmasks.programs import is_number
from fairmasks.rows import is_content
from fairmasks.steps import Steps


def is_policy(thing):
    """Whether a thing is a pair of flags."""
    return is_pair(thing) and isinstance(thing[0], bool) and isinstance(thing[1], bool)


class Keeper:
    """Who masks rows, one behind another, and writes lines of it, first loose, then sure."""

    def __init__(self, program, policy):
        if not is_policy(policy):
            raise NoPolicy()
        self.program = program
        self.policy = policy
        self.steps = Steps(program)
        self.held = []
        # For each row the columns that were ever opened, and for each that is shown the pattern.
        self.bared = []
        self.results = []
        self.sure = []
        self.loose = []
        # Of the first row that is not shown: whether its first line is written, and where it stands. Then where it
        # stood when the last line was made sure, from where it goes on behind a fall.
        self.here = (False, self.steps.start)
        self.safe = self.here

    def put(self, content):
        """Take a row, behind the others, and tell its number."""
        if not is_content(self.program.sizes, content):
            raise NoContent()
        self.held.append(content)
        self.bared.append(())
        return len(self.held) - 1

    def due(self):
        """The deed to do now, or None."""
        if len(self.results) == len(self.held):
            return None
        return self.steps.deed_at(self.here[1])

    def throw(self, value):
        """Do the throw that is due, which falls so."""
        deed = self.due()
        if deed is None or deed[0] != "throw":
            raise NotDue()
        if not is_number(value) or value >= deed[1]:
            raise NoNumber()
        self.write(("throw", value))
        self.here = (True, self.steps.behind_throw(self.here[1], value))
        if self.policy[0]:
            self.make_sure()

    def go(self):
        """Do the opening or the showing that is due."""
        deed = self.due()
        if deed is None or deed[0] == "throw":
            raise NotDue()
        if deed[0] == "show":
            self.write(deed)
            self.results.append(deed[1])
            self.here = (False, self.steps.start)
            self.make_sure()
        else:
            self.bare(deed[1])

    def fall(self):
        """Lose the loose lines, and go on from the sure ones."""
        self.loose = []
        self.here = self.safe

    def log(self):
        """The pair of the lists of the sure and the loose lines."""
        return (list(self.sure), list(self.loose))

    def shown(self, k):
        """The pattern that is shown of a row, or None."""
        self.check_row(k)
        return self.results[k] if k < len(self.results) else None

    def looked(self, k):
        """The ascending tuple of the columns of a row that were ever opened."""
        self.check_row(k)
        return self.bared[k]

    def peeked(self):
        """How many cells of rows that are shown were ever opened and are not shown."""
        return sum([len(bared) - len(pattern) for bared, pattern in zip(self.bared, self.results)])

    def copy(self):
        """Another keeper that goes on apart."""
        other = Keeper(self.program, self.policy)
        other.held = list(self.held)
        other.bared = list(self.bared)
        other.results = list(self.results)
        other.sure = list(self.sure)
        other.loose = list(self.loose)
        other.here = self.here
        other.safe = self.safe
        return other

    def check_row(self, k):
        """Raise what is wrong with the number of a row."""
        if not is_number(k) or k >= len(self.held):
            raise NoNumber()

    def bare(self, column):
        """Open a column of the row."""
        if self.policy[1]:
            self.make_sure()
        number = len(self.results)
        worth = self.held[number][column]
        self.write(("open", column, worth))
        self.here = (True, self.steps.behind_opening(self.here[1], column, worth))
        if column not in self.bared[number]:
            self.bared[number] = tuple(sorted(self.bared[number] + (column,)))

    def write(self, line):
        """Write the line of a deed, behind that of the row if it is its first one."""
        if not self.here[0]:
            self.loose.append(("row", len(self.results)))
        self.loose.append(line)

    def make_sure(self):
        """Make all lines sure."""
        self.sure.extend(self.loose)
        self.loose = []
        self.safe = self.here

    def follow(self, line):
        """Do what a line tells; tell whether it could be written here."""
        deed = self.due()
        if deed is None or not is_line(line):
            return False
        if not self.here[0]:
            if line != ("row", len(self.results)):
                return False
            self.loose.append(line)
            self.here = (True, self.here[1])
            return True
        if line[0] == "throw":
            if deed[0] != "throw" or line[1] >= deed[1]:
                return False
            self.throw(line[1])
            return True
        if line[0] == "open":
            deed = deed + (self.held[len(self.results)][line[1]],) if deed == line[:2] else deed
        if deed != line:
            return False
        self.go()
        return True


def risen(program, policy, rows, lines):
    """The keeper behind a fall, with these rows and sure lines."""
    keeper = Keeper(program, policy)
    if not isinstance(rows, (list, tuple)) or not all([is_content(program.sizes, content) for content in rows]):
        raise NoRows()
    if not isinstance(lines, (list, tuple)):
        raise BadLog(-1)
    for content in rows:
        keeper.put(content)
    for index, line in enumerate(lines):
        if not keeper.follow(line):
            raise BadLog(index)
    keeper.make_sure()
    return keeper
