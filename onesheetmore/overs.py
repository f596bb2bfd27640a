"""Kinds that cross over a third one, and sets of kinds that have a rule."""

from onesheetmore.common import need
from onesheetmore.kinds import is_kinds, is_pair_of_numbers
from onesheetmore.kindsets import is_wider_and_lower


def crosses_over(x, y, z):
    """True if y and z cross over x, else False."""
    need("x", is_pair_of_numbers(x))
    need("y", is_pair_of_numbers(y))
    need("z", is_pair_of_numbers(z))
    return is_wider_and_lower(y, z) and y[0] > x[0] and z[1] > x[1]


def first_over(lists, kinds):
    """The first triple (x, y, z) of kinds of the set such that y and z cross over x, or None."""
    need("kinds", is_kinds(lists, kinds))
    for x in kinds:
        for y in kinds:
            for z in kinds:
                if crosses_over(x, y, z):
                    return (x, y, z)
    return None


def has_rule(lists, kinds):
    """True if no two kinds of the set cross over a third one, else False."""
    return first_over(lists, kinds) is None
