"""Chances with which contents come."""

from fairmasks.amounts import ONE, is_fraction, total
from fairmasks.rows import all_contents


def is_chances(sizes, thing):
    """Whether a thing is a tuple with a fraction above 0 for each content, with the sum 1."""
    if not isinstance(thing, tuple) or len(thing) != len(all_contents(sizes)):
        return False
    for chance in thing:
        if not is_fraction(chance) or chance[0] <= 0:
            return False
    return total(thing) == ONE
