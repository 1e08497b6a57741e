"""Bets on what is shown, and the habits and bets of rings."""

from fairmasks.amounts import ONE, ZERO, below, is_fraction, plus, times, total
from fairmasks.errors import BadSizes, NoBet, NoRing
from fairmasks.habits import box_shares, habit_of
from fairmasks.lists import is_any_ring
from fairmasks.rows import START, boxes_of, boxes_with, is_box_of, is_sizes, less, narrowed, patterns_within


def is_bet(sizes, thing):
    """Whether a thing is a bet of these sizes."""
    if not is_sizes(sizes):
        raise BadSizes()
    if not isinstance(thing, dict):
        return False
    for box, part in thing.items():
        if not is_box_of(sizes, box) or len(box[0]) == len(sizes) or not is_fraction(part) or part[0] <= 0:
            return False
    if below(ONE, thing.get(START, ZERO)):
        return False
    return all([is_covered(sizes, thing, box) for box in thing])


def is_covered(sizes, bet, box):
    """Whether each box with a column less has at least what the boxes into which it is parted have."""
    for column in box[0]:
        outer = narrowed(box, less(box[0], column))
        parts = [bet.get(inner, ZERO) for inner in boxes_with(sizes, outer, column)]
        if below(bet.get(outer, ZERO), total(parts)):
            return False
    return True


def pays(bet, habit):
    """The mean that a bet pays against a fair habit."""
    shares = box_shares(habit)
    if not is_bet(habit.sizes, bet):
        raise NoBet()
    return total([times(part, bet[box]) for box, part in shares.items() if box in bet])


def check_ring(sizes, ring):
    """Raise what is wrong with these."""
    if not is_sizes(sizes):
        raise BadSizes()
    if not is_any_ring(len(sizes), ring):
        raise NoRing()


def is_told(ring, at, box):
    """Whether a box of the pattern with this index of a ring is one that the ring's habit shows."""
    rs, cs = ring
    _, one = narrowed(box, (cs[at - 1],))
    _, other = narrowed(box, (cs[at],))
    told = one + other
    if at < len(rs) - 1:
        return told in ((0, 0), (1, 1))
    return told in ((0, 1), (1, 0))


def ring_habit(sizes, ring):
    """The habit of a ring, which is fair and no asker's."""
    check_ring(sizes, ring)
    rs, _ = ring
    shares = {}
    for at, pattern in enumerate(rs):
        for box in boxes_of(sizes, pattern):
            if is_told(ring, at, box):
                shares[box] = (1, len(rs) - 1)
    return habit_of(sizes, shares)


def ring_bet(sizes, ring):
    """A bet that pays the most against the habit of a ring.

    It acts as if the columns of the ring held 0 or 1 with the same share, just
    as the habit asks for at each two of them, though no rows can hold all these
    at once; all other columns as if they held 0.
    """
    check_ring(sizes, ring)
    rs, _ = ring
    bet = {}
    for at in range(len(rs)):
        # Boxes of more than one pattern have the same in each.
        for box, part in ring_bet_within(sizes, ring, at).items():
            bet[box] = part
    return bet


def ring_bet_within(sizes, ring, at):
    """What a ring's bet has for the boxes of all patterns within the pattern with this index."""
    rs, cs = ring
    found = {}
    for box in boxes_of(sizes, rs[at]):
        others = narrowed(box, less(less(rs[at], cs[at - 1]), cs[at]))
        if is_told(ring, at, box) and not any(others[1]):
            for inner in patterns_within(rs[at]):
                outer = narrowed(box, inner)
                found[outer] = plus(found.get(outer, ZERO), (1, 2))
    return found
