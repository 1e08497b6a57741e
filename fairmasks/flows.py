"""Openings: with which shares columns are opened at stands, as dicts from stands to dicts from columns.

Shares of boxes are let by openings if at each stand at least its share is left
of what comes there, behind what is opened there. Then there is an asker that
stops at just these boxes with just these shares, and else opens all.
"""

from fairmasks.amounts import ONE, ZERO, greater, minus, over, plus, total
from fairmasks.askers import STOP, Asker
from fairmasks.rows import START, boxes_of, boxes_with, less, narrowed


def asker_with(sizes, shares, openings):
    """The asker with these shares of boxes of part patterns, which are let by the openings."""
    moves = {}
    come = {START: ONE}
    while come:
        after = {}
        for stand, whole in come.items():
            flows = flows_at(sizes, shares, openings, stand, whole)
            moves[stand] = tuple(sorted([(column, over(part, whole)) for column, part in flows.items()]))
            for column, part in flows.items():
                for box in boxes_with(sizes, stand, column) if column != STOP else []:
                    after[box] = plus(after.get(box, ZERO), part)
        come = after
    return Asker(sizes, moves)


def flows_at(sizes, shares, openings, stand, whole):
    """The dict from moves to the shares above 0 into which what comes to a stand is parted."""
    closed = [column for column in range(len(sizes)) if column not in stand[0]]
    if not closed:
        return {STOP: whole}
    flows = {STOP: shares.get(stand, ZERO)}
    for column, part in openings.get(stand, {}).items():
        flows[column] = part
    rest = minus(whole, total(list(flows.values())))
    # What is left is shown all.
    flows[closed[0]] = plus(flows.get(closed[0], ZERO), rest)
    return {column: part for column, part in flows.items() if part != ZERO}


def add_opening(openings, stand, column, part):
    """Let so much more of a column be opened at a stand."""
    told = openings.setdefault(stand, {})
    told[column] = plus(told.get(column, ZERO), part)


def openings_by(sizes, order, shares):
    """Openings that let shares of boxes whose patterns have this order.

    A nest column is struck: all patterns with it lie one within another, so
    that it can be opened where a row has come to one of them but for it, as
    often as the neediest of its worths asks for. What that worth needs not
    goes on along the chain of these patterns.
    """
    openings = {}
    left = shares
    for column in order:
        left = shares_without(sizes, column, left, openings)
    return openings


def shares_without(sizes, column, shares, openings):
    """Shares without a nest column that need be let so that these are let, by more openings."""
    found = {box: part for box, part in shares.items() if column not in box[0]}
    known = sorted({(len(pattern), pattern) for pattern, worths in shares if column in pattern})
    chain = [pattern for _, pattern in known]
    brought = {START: ZERO}
    used = {START: ZERO}
    last = ()
    for at, pattern in enumerate(chain):
        # used: what stops, with this column open, up to this pattern; brought: what has come by then.
        used = used_up_to(sizes, shares, pattern, last, used)
        needed = needed_up_to(sizes, pattern, column, last, brought, used)
        bare = less(pattern, column)
        for box in boxes_of(sizes, bare):
            more = minus(needed[box], brought[narrowed(box, less(last, column))])
            add_opening(openings, box, column, more)
            found[box] = plus(found.get(box, ZERO), more)
            if at < len(chain) - 1:
                further = [other for other in chain[at + 1] if other not in pattern]
                for inner in boxes_with(sizes, box, column):
                    add_way(sizes, openings, inner, further, minus(needed[box], used[inner]))
        brought = needed
        last = pattern
    return found


def used_up_to(sizes, shares, pattern, last, used):
    """The dict from the boxes of a pattern of a chain to the sum of the shares of them and those around."""
    found = {}
    for box in boxes_of(sizes, pattern):
        found[box] = plus(used[narrowed(box, last)], shares.get(box, ZERO))
    return found


def needed_up_to(sizes, pattern, column, last, brought, used):
    """The dict from the boxes of a pattern without a column to what has to come there, for any worth of it."""
    found = {}
    for box in boxes_of(sizes, less(pattern, column)):
        most = brought[narrowed(box, less(last, column))]
        for inner in boxes_with(sizes, box, column):
            most = greater(most, used[inner])
        found[box] = most
    return found


def add_way(sizes, openings, box, columns, part):
    """Let so much of these columns be opened, one behind another, from a box on."""
    stands = [box]
    for column in columns:
        after = []
        for stand in stands:
            add_opening(openings, stand, column, part)
            after.extend(boxes_with(sizes, stand, column))
        stands = after
