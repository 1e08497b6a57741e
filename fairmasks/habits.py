"""Habits: for each content the shares with which patterns are shown."""

from fairmasks.amounts import ONE, ZERO, below, is_pair, is_share, minus, plus
from fairmasks.errors import BadHabit, BadSizes, NoContent, NoPattern, NoShares, NotFair, TooMuch
from fairmasks.rows import all_columns, all_contents, is_box_of, is_content, is_pattern, is_sizes
from fairmasks.rows import place_of, worths_at


class Habit:
    """What is shown of each content: rows has a tuple of pairs (pattern, share) for each."""

    def __init__(self, sizes, rows):
        if not is_sizes(sizes):
            raise BadHabit("sizes")
        if not isinstance(rows, tuple) or len(rows) != len(all_contents(sizes)):
            raise BadHabit("rows")
        for index, row in enumerate(rows):
            if not is_habit_row(len(sizes), row):
                raise BadHabit(index)
        self.sizes = sizes
        self.rows = rows

    def __eq__(self, other):
        return isinstance(other, Habit) and self.sizes == other.sizes and self.rows == other.rows


def is_habit_row(columns, thing):
    """Whether a thing is what a habit of so many columns tells for one content."""
    if not isinstance(thing, tuple):
        return False
    last = None
    total = ZERO
    for pair in thing:
        if not is_pair(pair):
            return False
        pattern, part = pair
        if not is_pattern(columns, pattern) or not is_share(part) or part == ZERO:
            return False
        if last is not None and not last < pattern:
            return False
        last = pattern
        total = plus(total, part)
    return total == ONE


def share(habit, pattern, content):
    """The share with which a habit shows this pattern of this content."""
    if not is_pattern(len(habit.sizes), pattern):
        raise NoPattern()
    if not is_content(habit.sizes, content):
        raise NoContent()
    for shown, part in habit.rows[place_of(habit.sizes, content)]:
        if shown == pattern:
            return part
    return ZERO


def patterns(habit):
    """The ascending tuple of the pattern of all columns and all that are shown at times."""
    found = {shown for row in habit.rows for shown, part in row}
    found.add(all_columns(len(habit.sizes)))
    return tuple(sorted(found))


def unfair(habit):
    """The least (pattern, one, other) by which a habit is not fair, or None."""
    rows = [{shown: part for shown, part in row} for row in habit.rows]
    for pattern in patterns(habit):
        pair = unlike_pair_in(habit.sizes, pattern, [row.get(pattern, ZERO) for row in rows])
        if pair is not None:
            return (pattern, pair[0], pair[1])
    return None


def unlike_pair_in(sizes, pattern, parts):
    """The least two contents in one box of a pattern that have unlike parts, or None.

    Comparing with the first content of each box is enough: if any two of a box
    are unlike, the first one is unlike to some, and no content of it is less.
    """
    firsts = {}
    least = None
    for content, part in zip(all_contents(sizes), parts):
        one, told = firsts.setdefault(worths_at(pattern, content), (content, part))
        if told != part and (least is None or one < least[0]):
            least = (one, content)
    return least


def is_fair(habit):
    """Whether a thing is a habit that is fair."""
    return isinstance(habit, Habit) and unfair(habit) is None


def box_shares(habit):
    """The dict from all boxes of part patterns that a fair habit shows to their shares."""
    if unfair(habit) is not None:
        raise NotFair()
    everything = all_columns(len(habit.sizes))
    found = {}
    for content, row in zip(all_contents(habit.sizes), habit.rows):
        for pattern, part in row:
            if pattern != everything:
                found[(pattern, worths_at(pattern, content))] = part
    return found


def is_part_shares(sizes, thing):
    """Whether a thing is a dict from boxes of part patterns to shares."""
    if not isinstance(thing, dict):
        return False
    for box, part in thing.items():
        if not is_box_of(sizes, box) or len(box[0]) == len(sizes) or not is_share(part):
            return False
    return True


def habit_of(sizes, shares):
    """The fair habit with these shares of boxes of part patterns, the rest being shown whole."""
    if not is_sizes(sizes):
        raise BadSizes()
    if not is_part_shares(sizes, shares):
        raise NoShares()
    parts = sorted({pattern for pattern, worths in shares})
    rows = []
    for content in all_contents(sizes):
        pairs = [(pattern, shares.get((pattern, worths_at(pattern, content)), ZERO)) for pattern in parts]
        rows.append(filled_row(sizes, content, pairs))
    return Habit(sizes, tuple(rows))


def filled_row(sizes, content, pairs):
    """The row of a habit with these pairs, the rest being shown whole."""
    total = ZERO
    for pattern, part in pairs:
        total = plus(total, part)
    if below(ONE, total):
        raise TooMuch(content)
    pairs = pairs + [(all_columns(len(sizes)), minus(ONE, total))]
    return tuple(sorted([pair for pair in pairs if pair[1] != ZERO]))
