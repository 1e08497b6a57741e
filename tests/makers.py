"""Right objects to try things on, made by chance or by the words of the document, and their oracles."""

from fractions import Fraction
from itertools import combinations, product

from fairmasks.askers import Asker
from fairmasks.errors import BadProgram
from fairmasks.habits import Habit, habit_of
from fairmasks.making import program_of
from fairmasks.programs import Program
from fairmasks.running import run

SIZES = [(2,), (4,), (2, 2), (3, 2), (2, 2, 2), (4, 2, 2)]
ROOT = ((), ())


def pair(value):
    value = Fraction(value)
    return (value.numerator, value.denominator)


def all_patterns(columns):
    return sorted(p for many in range(columns + 1) for p in combinations(range(columns), many))


def part_patterns(columns):
    return [pattern for pattern in all_patterns(columns) if len(pattern) < columns]


def all_contents(sizes):
    return list(product(*map(range, sizes)))


def boxes_of(sizes, pattern):
    return [(pattern, worths) for worths in product(*[range(sizes[c]) for c in pattern])]


def all_boxes(sizes):
    return [box for pattern in all_patterns(len(sizes)) for box in boxes_of(sizes, pattern)]


def at(pattern, content):
    return tuple(content[c] for c in pattern)


def is_in(content, box):
    return at(box[0], content) == box[1]


def wider(sizes, box, column):
    """The boxes into which a column parts a box."""
    pattern = tuple(sorted(box[0] + (column,)))
    told = dict(zip(*box))
    return [(pattern, tuple({**told, column: worth}[c] for c in pattern)) for worth in range(sizes[column])]


def parted(chance, many, bottom=None):
    """So many fractions above 0 with the sum 1."""
    weights = [chance.randint(1, 4) for _ in range(many)]
    if bottom is not None:
        cuts = [0] + sorted(chance.sample(range(1, bottom), many - 1)) + [bottom]
        weights = [high - low for low, high in zip(cuts, cuts[1:])]
    return [pair(Fraction(weight, sum(weights))) for weight in weights]


def even_chances(sizes):
    many = len(all_contents(sizes))
    return ((1, many),) * many


def random_chances(sizes, chance):
    return tuple(parted(chance, len(all_contents(sizes))))


def random_row(patterns, chance):
    shown = sorted(chance.sample(patterns, chance.randint(1, min(4, len(patterns)))))
    return tuple(zip(shown, parted(chance, len(shown))))


def random_habit(sizes, chance):
    """A habit of few unlike rows, so that it is fair now and then."""
    rows = [random_row(all_patterns(len(sizes)), chance) for _ in range(2)]
    many = len(all_contents(sizes))
    places = chance.sample(range(many), min(chance.choice([0, 0, 1, 1, 2, many]), many))
    return Habit(sizes, tuple(rows[k in places] for k in range(many)))


def random_shares(sizes, patterns, chance, dense=0.7):
    """Shares above 0 of boxes of these patterns that come to at most 1, and for some content to just 1."""
    shares = {}
    for pattern in patterns:
        for box in boxes_of(sizes, pattern):
            if chance.random() < dense:
                shares[box] = Fraction(chance.randint(1, 5))
    most = max([sum(part for box, part in shares.items() if is_in(content, box)) for content in all_contents(sizes)])
    return {box: pair(part / most) for box, part in shares.items()}


def random_fair(sizes, chance):
    patterns = part_patterns(len(sizes))
    chosen = chance.sample(patterns, chance.randint(0, min(4, len(patterns))))
    return habit_of(sizes, random_shares(sizes, chosen, chance))


def whole(sizes):
    """The habit that shows all columns of each content."""
    return Habit(sizes, tuple(((tuple(range(len(sizes))), (1, 1)),) for _ in all_contents(sizes)))


def random_asker(sizes, chance, most=3, bottom=None):
    """An asker with up to so many moves at each stand."""
    moves = {}
    stands = [ROOT]
    while stands:
        stand = stands.pop()
        if stand in moves:
            continue
        choice = [-1] + [c for c in range(len(sizes)) if c not in stand[0]]
        chosen = sorted(chance.sample(choice, min(len(choice), chance.randint(1, most))))
        moves[stand] = tuple(zip(chosen, parted(chance, len(chosen), bottom)))
        for column in chosen:
            if column != -1:
                stands.extend(wider(sizes, stand, column))
    return Asker(sizes, moves)


NAMES = ["a", "b", "abcdefgh"]


def random_test(sizes, chance, cells):
    column = chance.randrange(len(sizes))
    if cells and chance.random() < 0.5:
        return ("cell", column, chance.randrange(sizes[column]))
    return ("name", chance.choice(NAMES), chance.randint(0, 2))


def random_block(sizes, chance, depth, left):
    """A block of at most this depth, and of fewer statements within it the deeper it is."""
    block = []
    for _ in range(chance.randint(1, 5)):
        kind = chance.choice(["open", "throw", "throw", "put", "if", "if", "if", "if", "again", "show"])
        if left < 1 or depth < 1:
            break
        left -= 1
        if kind == "open":
            block.append(("open", chance.randrange(len(sizes))))
        elif kind == "throw":
            block.append(("throw", chance.choice(NAMES), chance.choice([2, 2, 3])))
        elif kind == "put":
            block.append(("put", chance.choice(NAMES), chance.randint(0, 3)))
        elif kind == "show":
            block.append(("show", chance.choice(all_patterns(len(sizes)))))
        elif kind == "again":
            block.append(("again", chance.choice([0, 1, 2, 3]), random_block(sizes, chance, depth - 1, left // 2)))
        else:
            yes = random_block(sizes, chance, depth - 1, left // 3)
            block.append(("if", random_test(sizes, chance, True), yes, random_block(sizes, chance, depth - 1, left // 3)))
    return tuple(block)


def random_program(sizes, chance):
    while True:
        try:
            return Program(sizes, random_block(sizes, chance, chance.randint(2, 5), 20))
        except BadProgram:
            # It got too great: another one.
            pass


def without_shows(block, sizes):
    """A block that shows just what is open, or all, so that it is blind."""
    found = []
    for statement in block:
        if statement[0] != "show":
            found.append(tuple(without_shows(part, sizes) if k > 1 and isinstance(part, tuple) else part
                               for k, part in enumerate(statement)))
        elif len(statement[1]) == len(sizes):
            found.append(statement)
    return tuple(found)


def blind_program(sizes, chance):
    if chance.random() < 0.5:
        return program_of(random_asker(sizes, chance, 2, chance.choice([2, 3])))
    return Program(sizes, without_shows(random_program(sizes, chance).block, sizes))


class Lacking(Exception):
    """A throw is asked for that is not there."""


class Machine:
    """A program run by the words of the document, apart from the package."""

    def __init__(self, program, content, throws):
        self.content = content
        self.throws = list(throws)
        self.asked = []
        self.stands = []
        self.order = []
        self.names = {}
        self.shown = None
        self.block(program.block)
        if self.shown is None:
            self.shown = tuple(sorted(self.order))

    def cell(self, column):
        if column not in self.order:
            self.order.append(column)
        return self.content[column]

    def block(self, block):
        for statement in block:
            if self.shown is None:
                getattr(self, "do_" + statement[0])(*statement[1:])

    def do_open(self, column):
        self.cell(column)

    def do_throw(self, name, most):
        self.asked.append(most)
        self.stands.append(tuple(sorted(self.order)))
        if len(self.asked) > len(self.throws):
            raise Lacking(most)
        self.names[name] = self.throws[len(self.asked) - 1]

    def do_put(self, name, number):
        self.names[name] = number

    def do_if(self, test, yes, no):
        found = self.cell(test[1]) if test[0] == "cell" else self.names.get(test[1], 0)
        self.block(yes if found == test[2] else no)

    def do_again(self, most, block):
        for _ in range(most):
            self.block(block)

    def do_show(self, pattern):
        for column in pattern:
            self.cell(column)
        self.shown = pattern


def all_runs(program, content, most=None):
    """The list of (machine, share) of all runs of a content, or None if there are more than most."""
    found = []
    left = [((), Fraction(1))]
    while left:
        throws, part = left.pop()
        try:
            found.append((Machine(program, content, throws), part))
        except Lacking as lacking:
            left.extend((throws + (value,), part / lacking.args[0]) for value in range(lacking.args[0]))
        if most is not None and len(found) + len(left) > most:
            return None
    return found


def shown_shares(program, content):
    """The dict from the patterns that a program shows of a content to their shares."""
    found = {}
    for machine, part in all_runs(program, content):
        found[machine.shown] = found.get(machine.shown, 0) + part
    return found


def habit_of_runs(program):
    rows = [shown_shares(program, content) for content in all_contents(program.sizes)]
    return Habit(program.sizes, tuple(tuple((p, pair(row[p])) for p in sorted(row)) for row in rows))


def same_as_run(program, content, machine):
    return run(program, content, tuple(machine.throws)) == (machine.shown, tuple(machine.order), len(machine.asked))


def is_blind_by_runs(program):
    return all(tuple(sorted(machine.order)) == machine.shown
               for content in all_contents(program.sizes) for machine, _ in all_runs(program, content))


class Scribe(Machine):
    """A machine that writes the lines of its deeds; asks is of how much the throw is that it lacks, or None."""

    def __init__(self, program, content, throws):
        self.lines = []
        self.asks = None
        try:
            Machine.__init__(self, program, content, throws)
            self.lines.append(("show", self.shown))
        except Lacking as lacking:
            self.asks = lacking.args[0]

    def cell(self, column):
        if column not in self.order:
            self.lines.append(("open", column, self.content[column]))
        return Machine.cell(self, column)

    def do_throw(self, name, most):
        Machine.do_throw(self, name, most)
        self.lines.append(("throw", self.names[name]))


class KeeperByWords:
    """A keeper by the words of the document: from its lines it finds out anew each time what is due."""

    def __init__(self, program, policy):
        self.program = program
        self.throws, self.ahead = policy
        self.rows = []
        self.ever = []
        self.sure = []
        self.loose = []

    def copy(self):
        other = KeeperByWords(self.program, (self.throws, self.ahead))
        other.rows = list(self.rows)
        other.ever = [set(columns) for columns in self.ever]
        other.sure, other.loose = list(self.sure), list(self.loose)
        return other

    def put(self, content):
        self.rows.append(content)
        self.ever.append(set())

    def patterns(self):
        return [line[1] for line in self.sure + self.loose if line[0] == "show"]

    def of_row(self):
        """The lines of the row that is not shown."""
        lines = self.sure + self.loose
        shows = [at for at, line in enumerate(lines) if line[0] == "show"]
        return lines[shows[-1] + 1:] if shows else lines

    def due(self):
        at = len(self.patterns())
        if at == len(self.rows):
            return None
        lines = [line for line in self.of_row() if line[0] != "row"]
        scribe = Scribe(self.program, self.rows[at], [line[1] for line in lines if line[0] == "throw"])
        assert scribe.lines[:len(lines)] == lines
        if len(scribe.lines) == len(lines):
            return ("throw", scribe.asks)
        return scribe.lines[len(lines)][:2]

    def do(self, deed, value=None):
        at = len(self.patterns())
        if deed[0] == "open" and self.ahead:
            self.sure, self.loose = self.sure + self.loose, []
        if not self.of_row():
            self.loose.append(("row", at))
        if deed[0] == "throw":
            self.loose.append(("throw", value))
        elif deed[0] == "open":
            self.ever[at].add(deed[1])
            self.loose.append(("open", deed[1], self.rows[at][deed[1]]))
        else:
            self.loose.append(deed)
        if deed[0] == "show" or (deed[0] == "throw" and self.throws):
            self.sure, self.loose = self.sure + self.loose, []

    def fall(self):
        self.loose = []

    def peeked(self):
        return sum(len(self.ever[at] - set(pattern)) for at, pattern in enumerate(self.patterns()))


POLICIES = [(False, False), (False, True), (True, False), (True, True)]
