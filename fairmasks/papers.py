"""The one of both papers that each fair habit has: an asker, or a bet that no asker can pay."""

from fairmasks.amounts import ONE, ZERO, below, common_bottom, over
from fairmasks.errors import TooMany
from fairmasks.flows import asker_with, openings_by
from fairmasks.habits import box_shares, patterns, unfair
from fairmasks.lists import order_of
from fairmasks.rows import all_columns, boxes_of, boxes_with, patterns_within
from fairmasks.running import habit_by
from fairmasks.simplex import Table

MOST_BOXES = 81


def check_boxes(sizes):
    """Raise TooMany if there are more boxes of these sizes than are let."""
    many = 1
    for size in sizes:
        many = many * (size + 1)
    if many > MOST_BOXES:
        raise TooMany(MOST_BOXES)


def order_without_ring(habit):
    """An order of the part patterns of a habit, or None if there is a ring among them."""
    columns = len(habit.sizes)
    parts = [pattern for pattern in patterns(habit) if len(pattern) < columns]
    return order_of(parts, all_columns(columns))


class Paper:
    """The bet that pays most against shares of boxes, what it pays, and the openings that let them.

    These let the shares only if it pays at most 1. To look for the bet, with
    an unknown for each box, and for the openings, with one for each stand and
    column, is to look for the two sides of one thing.
    """

    def __init__(self, sizes, shares):
        boxes = boxes_around(sizes, shares)
        index = {box: at for at, box in enumerate(boxes)}
        ways = [(box, column) for box in boxes for column in columns_behind(sizes, box, index)]
        rows = [[1] + [0 for _ in boxes[1:]]]
        for box, column in ways:
            row = [0 for _ in boxes]
            row[index[box]] = -1
            for inner in boxes_with(sizes, box, column):
                row[index[inner]] = 1
            rows.append(row)
        bottom = common_bottom(list(shares.values()))
        costs = []
        for box in boxes:
            top, under = shares.get(box, ZERO)
            costs.append(top * (bottom // under))
        table = Table(rows, [1] + [0 for _ in ways], costs)
        self.pay = over(table.greatest(), (bottom, 1))
        self.bet = {box: part for box, part in zip(boxes, table.worths()) if part != ZERO}
        self.openings = {}
        for (box, column), price in zip(ways, table.prices()[1:]):
            self.openings.setdefault(box, {})[column] = over(price, (bottom, 1))


def boxes_around(sizes, shares):
    """The list of all boxes of patterns within those of some boxes, that of no columns first."""
    known = {(0, ()): True}
    for pattern in sorted({pattern for pattern, worths in shares}):
        for inner in patterns_within(pattern):
            known[(len(inner), inner)] = True
    found = []
    for _, pattern in sorted(known):
        found.extend(boxes_of(sizes, pattern))
    return found


def columns_behind(sizes, box, index):
    """The columns that part a box into boxes that have an index."""
    closed = [column for column in range(len(sizes)) if column not in box[0]]
    return [column for column in closed if boxes_with(sizes, box, column)[0] in index]


def asker_for(habit):
    """An asker with a fair habit, or None."""
    shares = box_shares(habit)
    order = order_without_ring(habit)
    if order is not None:
        return asker_with(habit.sizes, shares, openings_by(habit.sizes, order, shares))
    check_boxes(habit.sizes)
    paper = Paper(habit.sizes, shares)
    if below(ONE, paper.pay):
        return None
    return asker_with(habit.sizes, shares, paper.openings)


def bet_for(habit):
    """A bet that pays more than 1 against a fair habit, or None."""
    shares = box_shares(habit)
    if order_without_ring(habit) is not None:
        return None
    check_boxes(habit.sizes)
    paper = Paper(habit.sizes, shares)
    return paper.bet if below(ONE, paper.pay) else None


def best_bet(habit):
    """The pair of the most that a bet pays against a fair habit, and such a bet."""
    shares = box_shares(habit)
    check_boxes(habit.sizes)
    paper = Paper(habit.sizes, shares)
    return (paper.pay, paper.bet)


def greatest_share(habit):
    """The greatest share of a fair habit, the rest being shown all, that is an asker's."""
    pay, _ = best_bet(habit)
    return over(ONE, pay) if below(ONE, pay) else ONE


def twin(program):
    """Why a program is unfair, else an asker with its habit, else a bet that pays more than 1 against it."""
    habit = habit_by(program)
    triple = unfair(habit)
    if triple is not None:
        return ("unfair", triple)
    asker = asker_for(habit)
    if asker is not None:
        return ("asker", asker)
    return ("bet", bet_for(habit))
