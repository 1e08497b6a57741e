"""Askers: at each stand the shares with which they stop, or open which column."""

from fairmasks.amounts import ONE, ZERO, is_pair, is_share, is_whole, plus, times, total
from fairmasks.chances import is_chances
from fairmasks.errors import BadAsker, NoBox, NoChances
from fairmasks.habits import Habit
from fairmasks.rows import START, all_contents, boxes_with, is_box_of, is_sizes, worths_at

STOP = -1


class Asker:
    """Who tells at each stand (pattern, worths) the shares of its moves: columns, or STOP."""

    def __init__(self, sizes, moves):
        if not is_sizes(sizes):
            raise BadAsker("sizes")
        if not is_stands(sizes, moves):
            raise BadAsker("moves")
        wrong = wrong_stand(sizes, moves)
        if wrong is not None:
            raise BadAsker(wrong)
        self.sizes = sizes
        self.moves = {stand: moves[stand] for stand in moves}

    def __eq__(self, other):
        return isinstance(other, Asker) and self.sizes == other.sizes and self.moves == other.moves


def is_stands(sizes, thing):
    """Whether a thing is a dict whose keys are boxes and have the one of no columns among them."""
    return isinstance(thing, dict) and all([is_box_of(sizes, stand) for stand in thing]) and START in thing


def wrong_stand(sizes, moves):
    """The least stand, by columns and then as a box, at which a dict from boxes is no asker's, or None."""
    told = {}
    for stand in moves:
        told.setdefault(len(stand[0]), []).append(stand)
    come = {START: True}
    for many in range(len(sizes) + 1):
        # Whatever is wrong with fewer columns has been found by now, so it is known what comes here.
        after = {}
        for stand in sorted(set(list(come) + told.get(many, []))):
            if stand not in come or stand not in moves or not is_moves(len(sizes), stand[0], moves[stand]):
                return stand
            for box in boxes_after(sizes, stand, moves[stand]):
                after[box] = True
        come = after
    return None


def is_moves(columns, pattern, thing):
    """Whether a thing is what an asker does at a stand at which a pattern of so many columns is open."""
    if not isinstance(thing, tuple):
        return False
    last = None
    parts = []
    for pair in thing:
        if not is_pair(pair):
            return False
        column, part = pair
        if not is_whole(column) or not STOP <= column < columns or column in pattern:
            return False
        if not is_share(part) or part == ZERO or (last is not None and column <= last):
            return False
        last = column
        parts.append(part)
    return total(parts) == ONE


def boxes_after(sizes, stand, moves):
    """The list of the stands that come by one of these moves."""
    found = []
    for column, _ in moves:
        if column != STOP:
            found.extend(boxes_with(sizes, stand, column))
    return found


def by_columns(boxes):
    """Boxes by their number of columns, then as boxes."""
    return [box for _, box in sorted([(len(box[0]), box) for box in boxes])]


def all_coming(asker):
    """The dict from the stands to the share with which the asker comes to them, for contents in them."""
    found = {stand: ZERO for stand in asker.moves}
    found[START] = ONE
    for stand in by_columns(list(asker.moves)):
        for column, part in asker.moves[stand]:
            if column != STOP:
                for box in boxes_with(asker.sizes, stand, column):
                    found[box] = plus(found[box], times(found[stand], part))
    return found


def coming(asker, stand):
    """The share with which an asker comes to a stand, for contents that are in it."""
    if not is_box_of(asker.sizes, stand):
        raise NoBox()
    return all_coming(asker).get(stand, ZERO)


def asker_habit(asker):
    """The habit of what is open where an asker stops."""
    come = all_coming(asker)
    stopped = {}
    for stand in asker.moves:
        for column, part in asker.moves[stand]:
            if column == STOP:
                stopped[stand] = times(come[stand], part)
    shown = sorted({pattern for pattern, worths in stopped})
    rows = []
    for content in all_contents(asker.sizes):
        boxes = [(pattern, worths_at(pattern, content)) for pattern in shown]
        rows.append(tuple([(box[0], stopped[box]) for box in boxes if box in stopped]))
    return Habit(asker.sizes, tuple(rows))


def opened(asker, chances):
    """The mean number of opened columns."""
    if not is_chances(asker.sizes, chances):
        raise NoChances()
    parts = []
    for row, chance in zip(asker_habit(asker).rows, chances):
        # All that is open is shown.
        for pattern, part in row:
            parts.append(times(chance, times(part, (len(pattern), 1))))
    return total(parts)
