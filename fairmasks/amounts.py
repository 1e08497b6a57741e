"""Integers, pairs, fractions and shares."""

from math import gcd, lcm

ZERO = (0, 1)
ONE = (1, 1)


def is_whole(thing):
    """Whether a thing is an integer: flags are ints to Python, but no integers here."""
    return isinstance(thing, int) and not isinstance(thing, bool)


def is_pair(thing):
    """Whether a thing is a tuple of two."""
    return isinstance(thing, tuple) and len(thing) == 2


def is_fraction(thing):
    """Whether a thing is a pair of a top and a bottom in lowest terms."""
    if not is_pair(thing):
        return False
    top, bottom = thing
    return is_whole(top) and is_whole(bottom) and bottom >= 1 and gcd(top, bottom) == 1


def is_share(thing):
    """Whether a thing is a fraction from 0 to 1."""
    return is_fraction(thing) and 0 <= thing[0] <= thing[1]


def fraction(top, bottom):
    """The fraction of two integers, in lowest terms; bottom is from 1 on."""
    common = gcd(top, bottom)
    return (top // common, bottom // common)


def plus(one, other):
    """The sum of two fractions."""
    return fraction(one[0] * other[1] + other[0] * one[1], one[1] * other[1])


def minus(one, other):
    """What is left of the first fraction without the other one."""
    return plus(one, (-other[0], other[1]))


def below(one, other):
    """Whether the first fraction is less than the other one."""
    return one[0] * other[1] < other[0] * one[1]


def times(one, other):
    """The product of two fractions."""
    return fraction(one[0] * other[0], one[1] * other[1])


def over(one, other):
    """The first fraction divided by the other one, which is above 0."""
    return fraction(one[0] * other[1], one[1] * other[0])


def greater(one, other):
    """The greater one of two fractions."""
    if below(one, other):
        return other
    return one


def common_bottom(parts):
    """The least common bottom of a list of fractions."""
    bottom = 1
    for part in parts:
        bottom = lcm(bottom, part[1])
    return bottom


def total(parts):
    """The sum of a list of fractions."""
    bottom = common_bottom(parts)
    return fraction(sum([part[0] * (bottom // part[1]) for part in parts]), bottom)
