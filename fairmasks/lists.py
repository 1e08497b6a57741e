"""Lists of patterns: nest columns, orders, rings."""

from itertools import combinations, permutations

from fairmasks.amounts import is_pair, is_whole
from fairmasks.errors import NoList
from fairmasks.rows import all_columns, is_list, is_pattern, less

LEAST_RING = 3


def parts_of(columns, listed):
    """The tuple of the part patterns of a list; raise what is wrong with these."""
    if not is_list(columns, listed):
        raise NoList()
    return tuple([pattern for pattern in listed if len(pattern) < columns])


def within(inner, outer):
    """Whether all columns of a pattern are in another one."""
    return all([column in outer for column in inner])


def is_nest(parts, column):
    """Whether those of the patterns that hold a column lie one within another."""
    chain = sorted([pattern for pattern in parts if column in pattern], key=len)
    return all([within(inner, outer) for inner, outer in zip(chain, chain[1:])])


def struck(parts, column):
    """Patterns from which a column is struck."""
    return tuple([less(pattern, column) for pattern in parts])


def order_of(parts, left):
    """The least order of the columns that are left, or None.

    A nest column stays one when others are struck, so that the least one may always be struck first.
    """
    if not left:
        return ()
    for column in left:
        if is_nest(parts, column):
            behind = order_of(struck(parts, column), less(left, column))
            return None if behind is None else (column,) + behind
    return None


def count_orders(parts, left):
    """How many orders there are of the columns that are left."""
    if not left:
        return 1
    nested = [column for column in left if is_nest(parts, column)]
    return sum([count_orders(struck(parts, column), less(left, column)) for column in nested])


def nests(columns, listed):
    """The ascending tuple of the nest columns of the part patterns of a list."""
    parts = parts_of(columns, listed)
    return tuple([column for column in all_columns(columns) if is_nest(parts, column)])


def order(columns, listed):
    """The least order of a list, or None."""
    return order_of(parts_of(columns, listed), all_columns(columns))


def many_orders(columns, listed):
    """How many orders a list has."""
    return count_orders(parts_of(columns, listed), all_columns(columns))


def ring_columns(rs):
    """The least cs with which a tuple of patterns is a ring, or None."""
    found = []
    for at, pattern in enumerate(rs):
        behind = rs[(at + 1) % len(rs)]
        shared = [column for column in pattern if column in behind and len(those_with(rs, column)) == 2]
        if not shared:
            return None
        found.append(shared[0])
    return tuple(found)


def those_with(rs, column):
    """The patterns that hold a column."""
    return [pattern for pattern in rs if column in pattern]


def ring_in(patterns):
    """The least ring of all these patterns, which ascend, or None."""
    # A ring can be turned on, so that the least one begins with the least pattern.
    others = list(patterns[1:])
    for rest in permutations(others):
        rs = patterns[:1] + rest
        cs = ring_columns(rs)
        if cs is not None:
            return (rs, cs)
    return None


def rings_of(parts, most):
    """The ascending list of the least ring of each of the sets of so many patterns that make one."""
    found = []
    known = list(parts)
    for patterns in combinations(known, most):
        least = ring_in(patterns)
        if least is not None:
            found.append(least)
    return sorted(found)


def ring(columns, listed):
    """Of the rings of fewest patterns in a list the least, or None."""
    parts = parts_of(columns, listed)
    for most in range(LEAST_RING, columns + 1):
        found = rings_of(parts, most)
        if found:
            return found[0]
    return None


def is_ring(columns, listed, thing):
    """Whether a thing is a ring of a list."""
    parts = parts_of(columns, listed)
    return is_any_ring(columns, thing) and all([pattern in parts for pattern in thing[0]])


def is_any_ring(columns, thing):
    """Whether a thing is a ring of some list of so many columns."""
    if not is_pair(thing) or not isinstance(thing[0], tuple) or not isinstance(thing[1], tuple):
        return False
    rs, cs = thing
    if len(rs) < LEAST_RING or len(rs) != len(cs):
        return False
    if not all([is_pattern(columns, pattern) and len(pattern) < columns for pattern in rs]):
        return False
    if not all([is_whole(column) for column in cs]) or len(set(rs)) < len(rs) or len(set(cs)) < len(cs):
        return False
    for at, column in enumerate(cs):
        pair = (rs[at], rs[(at + 1) % len(rs)])
        if column not in pair[0] or column not in pair[1] or len(those_with(rs, column)) != 2:
            return False
    return True


def given_up(columns, listed):
    """The ascending list of the tuples of as few part patterns as any without which no ring is left."""
    parts = list(parts_of(columns, listed))
    rings = []
    for most in range(LEAST_RING, columns + 1):
        rings.extend([rs for rs, _ in rings_of(parts, most)])
    for many in range(len(parts) + 1):
        found = [lost for lost in combinations(parts, many) if is_hit(rings, lost)]
        if found:
            return sorted(found)
    return []


def is_hit(rings, lost):
    """Whether each ring has one of the lost patterns."""
    return all([any([pattern in lost for pattern in rs]) for rs in rings])
