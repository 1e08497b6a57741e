"""Books: what was shown, row by row, with answers to the questions that are asked."""

from fairmasks.amounts import ZERO, is_whole, total
from fairmasks.errors import NeverShown, NoBox, NoName, NoNumber, NothingDone, NotTold
from fairmasks.programs import is_name
from fairmasks.questions import shown_boxes, weights_for
from fairmasks.rows import is_box_of


class Book:
    """The boxes that were shown of rows, and the weights that tell what is asked of them."""

    def __init__(self, habit):
        self.habit = habit
        self.known = {box: True for box in shown_boxes(habit)}
        self.held = []
        self.asked = {}
        # What was done, the last behind, each with what it takes to take it back.
        self.done = []

    def put(self, box):
        """Take in the box that was shown of a row, behind the others."""
        self.check_box(box)
        self.held.append(box)
        self.done.append(("put",))

    def take(self, index):
        """Take out the row with this index."""
        self.check_index(index)
        self.done.append(("take", index, self.held.pop(index)))

    def exchange(self, index, box):
        """Put the box of another row in the place of the row with this index."""
        self.check_index(index)
        self.check_box(box)
        self.done.append(("exchange", index, self.held[index]))
        self.held[index] = box

    def ask(self, name, question):
        """From now on answer this under this name."""
        if not is_name(name):
            raise NoName()
        weights = weights_for(self.habit, question)
        if weights is None:
            raise NotTold()
        self.done.append(("ask", name, self.asked.get(name)))
        self.asked[name] = weights

    def drop(self, name):
        """Answer no longer what is asked under this name."""
        self.check_asked(name)
        self.done.append(("ask", name, self.asked.pop(name)))

    def answer(self, name):
        """The sum of the weights of all rows for what is asked under this name."""
        self.check_asked(name)
        weights = self.asked[name]
        return total([weights.get(box, ZERO) for box in self.held])

    def names(self):
        """The ascending tuple of the names under which something is asked."""
        return tuple(sorted(self.asked))

    def boxes(self):
        """The list of the boxes of the rows."""
        return list(self.held)

    def counts(self):
        """The dict from the patterns of the boxes to how many there are."""
        found = {}
        for pattern, _ in self.held:
            found[pattern] = found.get(pattern, 0) + 1
        return found

    def back(self):
        """Take back the last deed that is not taken back."""
        if not self.done:
            raise NothingDone()
        deed = self.done.pop()
        if deed[0] == "put":
            self.held.pop()
        elif deed[0] == "take":
            self.held.insert(deed[1], deed[2])
        elif deed[0] == "exchange":
            self.held[deed[1]] = deed[2]
        elif deed[2] is None:
            self.asked.pop(deed[1])
        else:
            self.asked[deed[1]] = deed[2]

    def deeds(self):
        """How many deeds can be taken back."""
        return len(self.done)

    def copy(self):
        """Another book that goes on apart."""
        other = Book(self.habit)
        other.held = list(self.held)
        other.asked = {name: self.asked[name] for name in self.asked}
        other.done = list(self.done)
        return other

    def check_box(self, box):
        """Raise what is wrong with a box."""
        if not is_box_of(self.habit.sizes, box):
            raise NoBox()
        if box not in self.known:
            raise NeverShown()

    def check_index(self, index):
        """Raise what is wrong with an index."""
        if not is_whole(index) or not 0 <= index < len(self.held):
            raise NoNumber()

    def check_asked(self, name):
        """Raise what is wrong with a name under which something is to be asked."""
        if not is_name(name) or name not in self.asked:
            raise NoName()
