"""Programs gone through deed by deed: throws, openings, at last the showing.

A program is written as a list of STEPS, one behind another, some of which lead
on elsewhere. Where a run stands between two deeds is a MARK, a tuple that tells
all on which going on may hang: the index of a step, the agains around it, the
numbers of the names, the open columns with their worths, and how many throws
were made.
"""

from fairmasks.courses import changed
from fairmasks.programs import names_in


class Steps:
    """The steps of a program; start is the mark ahead of its first deed."""

    def __init__(self, program):
        self.slots = {name: at for at, name in enumerate(names_in(program.block))}
        self.steps = []
        self.write(program.block)
        self.steps.append(("end",))
        self.start = self.settled((0, (), tuple([0 for _ in self.slots]), (), (), 0))

    def write(self, block):
        """Write the steps of a block."""
        for statement in block:
            kind = statement[0]
            if kind == "if":
                self.write_if(statement)
            elif kind == "again":
                self.write_again(statement)
            elif kind in ("throw", "put"):
                self.steps.append((kind, self.slots[statement[1]], statement[2]))
            else:
                self.steps.append(statement)

    def write_if(self, statement):
        """Write the steps of both blocks, each with a step ahead: the test, and what leads past the second one."""
        _, test, yes, no = statement
        kind, asked, number = test
        at = len(self.steps)
        self.steps.append(test)
        self.write(yes)
        behind = len(self.steps)
        self.steps.append(test)
        self.write(no)
        self.steps[at] = (kind, asked if kind == "cell" else self.slots[asked], number, behind + 1)
        self.steps[behind] = ("jump", len(self.steps))

    def write_again(self, statement):
        """Write the steps of a block between one that leads past it and one that leads back to it."""
        _, most, block = statement
        at = len(self.steps)
        self.steps.append(statement)
        self.write(block)
        self.steps.append(("back", at + 1))
        self.steps[at] = ("again", most, len(self.steps))

    def settled(self, mark):
        """The mark at the next deed, behind all steps that are none."""
        at, agains, numbers, columns, worths, throws = mark
        while True:
            step = self.steps[at]
            kind = step[0]
            now = (numbers, columns, throws)
            if kind == "put":
                numbers = changed(numbers, step[1], step[2])
                at += 1
            elif kind == "name":
                at = at + 1 if numbers[step[1]] == step[2] else step[3]
            elif kind == "jump":
                at = step[1]
            elif kind == "again" and step[1] > 0:
                agains = agains + ((step[1], now),)
                at += 1
            elif kind == "again":
                at = step[2]
            elif kind == "back":
                many, before = agains[-1]
                # What changes nothing once changes nothing any more.
                is_left = many > 1 and before != now
                agains = agains[:-1] + (((many - 1, now),) if is_left else ())
                at = step[1] if is_left else at + 1
            elif kind == "open" and step[1] in columns:
                at += 1
            elif kind == "cell" and step[1] in columns:
                at = at + 1 if worths[columns.index(step[1])] == step[2] else step[3]
            else:
                return (at, agains, numbers, columns, worths, throws)

    def deed_at(self, mark):
        """The deed to do at a mark."""
        at, _, _, columns, _, _ = mark
        step = self.steps[at]
        if step[0] == "throw":
            return ("throw", step[2])
        if step[0] in ("open", "cell"):
            return ("open", step[1])
        if step[0] == "end":
            return ("show", tuple(sorted(columns)))
        closed = [column for column in step[1] if column not in columns]
        return ("open", closed[0]) if closed else ("show", step[1])

    def behind_throw(self, mark, value):
        """The mark behind a throw that falls so."""
        at, agains, numbers, columns, worths, throws = mark
        return self.settled((at + 1, agains, changed(numbers, self.steps[at][1], value), columns, worths, throws + 1))

    def behind_opening(self, mark, column, worth):
        """The mark behind the opening of a column with this worth."""
        at, agains, numbers, columns, worths, throws = mark
        return self.settled((at, agains, numbers, columns + (column,), worths + (worth,), throws))
