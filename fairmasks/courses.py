"""All runs of a program at once.

Runs that have opened the same cells and whose names hold the same numbers go
on alike. They are kept together in a PLACE (pattern, worths, numbers), with
how many they are and with which share they come, for each content with these
worths.
"""

from fairmasks.amounts import ONE, ZERO, plus, times
from fairmasks.errors import TooMany
from fairmasks.programs import names_in
from fairmasks.rows import START, all_contents, boxes_with, worths_at

MOST_RUNS = 2000


class Course:
    """What the runs of a program do.

    opening has for each stand at which runs open a column next the dict from
    these columns to the share of such runs; ending has for each stand at which
    runs end the dict from the patterns that are shown there to this share.
    """

    def __init__(self, program):
        self.sizes = program.sizes
        self.slots = {name: at for at, name in enumerate(names_in(program.block))}
        self.opening = {}
        self.ending = {}
        # How many runs end at a stand.
        self.ended = {}
        numbers = tuple([0 for _ in self.slots])
        places = self.through(program.block, {(START[0], START[1], numbers): (1, ONE)})
        for (pattern, worths, _), (many, part) in places.items():
            self.end((pattern, worths), pattern, many, part)
        check_runs(self.sizes, self.ended)

    def through(self, block, places):
        """The places behind a block of the runs that do not end in it."""
        for statement in block:
            if not places:
                break
            places = self.after(statement, places)
        return places

    def after(self, statement, places):
        """The places behind a statement of the runs that do not end in it."""
        kind = statement[0]
        if kind == "open":
            return self.open_in(statement[1], places)
        if kind == "throw":
            return self.throw_in(self.slots[statement[1]], statement[2], places)
        if kind == "put":
            return self.put_in(self.slots[statement[1]], statement[2], places)
        if kind == "again":
            return self.repeat_in(statement[1], statement[2], places)
        if kind == "show":
            return self.show_in(statement[1], places)
        yes, no = self.part_in(statement[1], places)
        found = self.through(statement[2], yes)
        return joined([found, self.through(statement[3], no)])

    def open_in(self, column, places):
        """The places behind the opening of a column."""
        found = {}
        for (pattern, worths, numbers), (many, part) in places.items():
            if column in pattern:
                gather(found, (pattern, worths, numbers), many, part)
                continue
            stand = (pattern, worths)
            told = self.opening.setdefault(stand, {})
            told[column] = plus(told.get(column, ZERO), part)
            for wider, more in boxes_with(self.sizes, stand, column):
                gather(found, (wider, more, numbers), many, part)
        return found

    def throw_in(self, at, most, places):
        """The places behind a throw of the name with this index."""
        # Checked here, too, as what is too much could otherwise grow without end.
        check_runs(self.sizes, self.runs_behind(places, most))
        found = {}
        for (pattern, worths, numbers), (many, part) in places.items():
            each = times(part, (1, most))
            for value in range(most):
                gather(found, (pattern, worths, changed(numbers, at, value)), many, each)
        return found

    def put_in(self, at, number, places):
        """The places behind the putting of a number into the name with this index."""
        found = {}
        for (pattern, worths, numbers), (many, part) in places.items():
            gather(found, (pattern, worths, changed(numbers, at, number)), many, part)
        return found

    def repeat_in(self, most, block, places):
        """The places behind a block that is gone through so many times."""
        for _ in range(most):
            before = places
            places = self.through(block, before)
            # Then no run has ended, thrown or opened anything, and none ever will in here.
            if places == before:
                break
        return places

    def show_in(self, shown, places):
        """No places, as all runs end here."""
        for column in shown:
            places = self.open_in(column, places)
        for (pattern, worths, _), (many, part) in places.items():
            self.end((pattern, worths), shown, many, part)
        return {}

    def part_in(self, test, places):
        """The pair of the places for which a test is so and of those for which it is not."""
        kind, asked, number = test
        if kind == "cell":
            places = self.open_in(asked, places)
        yes = {}
        no = {}
        for place, runs in places.items():
            pattern, worths, numbers = place
            found = worths[pattern.index(asked)] if kind == "cell" else numbers[self.slots[asked]]
            if found == number:
                yes[place] = runs
            else:
                no[place] = runs
        return (yes, no)

    def runs_behind(self, places, each):
        """The dict from stands to how many runs have ended there, or stand there, each of these counted so often."""
        found = {stand: self.ended[stand] for stand in self.ended}
        for (pattern, worths, _), (many, _) in places.items():
            found[(pattern, worths)] = found.get((pattern, worths), 0) + many * each
        return found

    def end(self, stand, shown, many, part):
        """Runs end at a stand and show a pattern."""
        told = self.ending.setdefault(stand, {})
        told[shown] = plus(told.get(shown, ZERO), part)
        self.ended[stand] = self.ended.get(stand, 0) + many


def gather(places, place, many, part):
    """Put runs into a place, to those that are there."""
    if place in places:
        there, share = places[place]
        places[place] = (there + many, plus(share, part))
    else:
        places[place] = (many, part)


def joined(parts):
    """The places of several dicts of places."""
    found = {}
    for places in parts:
        for place, (many, part) in places.items():
            gather(found, place, many, part)
    return found


def changed(numbers, at, number):
    """Numbers with another one at an index."""
    return numbers[:at] + (number,) + numbers[at + 1:]


def check_runs(sizes, runs):
    """Raise TooMany if more runs than are let are at the stands of some content."""
    if sum(list(runs.values())) <= MOST_RUNS:
        return
    told = sorted({pattern for pattern, worths in runs})
    for content in all_contents(sizes):
        if sum([runs.get((pattern, worths_at(pattern, content)), 0) for pattern in told]) > MOST_RUNS:
            raise TooMany(MOST_RUNS)


def endings_of(course, content):
    """The list of (pattern open, pattern shown, share) with which the runs of a content end."""
    found = []
    for pattern in sorted({pattern for pattern, worths in course.ending}):
        for shown, part in course.ending.get((pattern, worths_at(pattern, content)), {}).items():
            found.append((pattern, shown, part))
    return found


def row_of(course, content):
    """The row of a habit that tells what the runs show of a content."""
    found = {}
    for _, shown, part in endings_of(course, content):
        found[shown] = plus(found.get(shown, ZERO), part)
    return tuple(sorted(found.items()))


def is_blind_course(course):
    """Whether no run opens a column that it does not show."""
    for (pattern, worths), told in course.ending.items():
        if list(told) != [pattern]:
            return False
    return True
