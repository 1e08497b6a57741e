"""Trust: lots of columns that somebody may open as they like, also if these stay hidden."""

from fairmasks.amounts import ZERO, plus
from fairmasks.errors import NoPattern
from fairmasks.habits import Habit
from fairmasks.lists import order_of, parts_of, within
from fairmasks.rows import all_columns, all_contents, is_pattern, patterns_within, worths_at


def is_enough(columns, listed, lot):
    """Whether who is trusted with a lot can have every fair habit whose patterns are in a list."""
    parts = parts_of(columns, listed)
    return is_pattern(columns, lot) and is_ringless_without(columns, parts, lot)


def trusts(columns, listed):
    """The ascending list of all lots that are enough while no lot within them is."""
    parts = parts_of(columns, listed)
    lots = patterns_within(all_columns(columns))
    enough = [lot for lot in lots if is_ringless_without(columns, parts, lot)]
    return sorted([lot for lot in enough if not any([other != lot and within(other, lot) for other in enough])])


def is_ringless_without(columns, parts, lot):
    """Whether part patterns hold no ring without the columns of a lot, those that are then all being left out."""
    left = without(all_columns(columns), lot)
    bare = [without(pattern, lot) for pattern in parts]
    # They have an order exactly if they hold no ring.
    return order_of([pattern for pattern in bare if pattern != left], left) is not None


def without(pattern, lot):
    """A pattern without the columns of a lot."""
    return tuple([column for column in pattern if column not in lot])


def behind(habit, lot):
    """The dict from all worths of the columns of a lot to the habit of the other columns behind them."""
    columns = len(habit.sizes)
    if not is_pattern(columns, lot) or not 0 < len(lot) < columns:
        raise NoPattern()
    left = without(all_columns(columns), lot)
    sizes = tuple([habit.sizes[column] for column in left])
    rows = {}
    for content, row in zip(all_contents(habit.sizes), habit.rows):
        rows.setdefault(worths_at(lot, content), []).append(row_behind(row, left))
    return {worths: Habit(sizes, tuple(rows[worths])) for worths in rows}


def row_behind(row, left):
    """The row of a habit of the columns that are left, numbered anew."""
    found = {}
    for pattern, part in row:
        bare = tuple([left.index(column) for column in pattern if column in left])
        found[bare] = plus(found.get(bare, ZERO), part)
    return tuple(sorted(found.items()))
