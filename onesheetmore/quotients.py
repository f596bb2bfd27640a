"""Reckoning with quotients."""

from math import gcd

from onesheetmore.common import need
from onesheetmore.kinds import is_quotient


def reduced(top, bottom):
    """The quotient that stands for top / bottom; bottom is at least 1."""
    divisor = gcd(top, bottom)
    return (top // divisor, bottom // divisor)


def is_below(one, other):
    """As is_less, of what are known to be quotients."""
    return one[0] * other[1] < other[0] * one[1]


def raised(one, many):
    """What is known to be a quotient, and an integer added."""
    return (one[0] + many * one[1], one[1])


def need_both(one, other):
    """Refuse the first of the two that is no quotient."""
    need("one", is_quotient(one))
    need("other", is_quotient(other))


def plus(one, other):
    """The sum of two quotients."""
    need_both(one, other)
    return reduced(one[0] * other[1] + other[0] * one[1], one[1] * other[1])


def minus(one, other):
    """The quotient one less other."""
    need_both(one, other)
    return reduced(one[0] * other[1] - other[0] * one[1], one[1] * other[1])


def times(one, other):
    """The product of two quotients."""
    need_both(one, other)
    return reduced(one[0] * other[0], one[1] * other[1])


def is_less(one, other):
    """True if one is less than other, else False."""
    need_both(one, other)
    return is_below(one, other)


def whole_of(one):
    """The quotient, rounded down."""
    need("one", is_quotient(one))
    return one[0] // one[1]
