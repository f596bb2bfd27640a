"""Kinds that cross or hold one another, and closed sets of kinds."""

from onesheetmore.common import need
from onesheetmore.kinds import is_kinds, is_pair_of_numbers


def is_pairs(thing):
    """True if thing is a tuple of pairs of numbers, else False."""
    return isinstance(thing, tuple) and all([is_pair_of_numbers(entry) for entry in thing])


def is_wider_and_lower(one, other):
    """True if one is wider and other is taller, else False."""
    return one[0] > other[0] and one[1] < other[1]


def crosses(one, other):
    """True if the two cross, else False."""
    need("one", is_pair_of_numbers(one))
    need("other", is_pair_of_numbers(other))
    return is_wider_and_lower(one, other) or is_wider_and_lower(other, one)


def holds(one, other):
    """True if one is neither narrower nor lower than other, else False."""
    need("one", is_pair_of_numbers(one))
    need("other", is_pair_of_numbers(other))
    return one[0] >= other[0] and one[1] >= other[1]


def first_crossing(kinds):
    """The least pair (y, z) of entries, y wider and z taller, or None."""
    need("kinds", is_pairs(kinds))
    entries = sorted(set(kinds))
    for y in entries:
        for z in entries:
            if is_wider_and_lower(y, z):
                return (y, z)
    return None


def least_of(kinds):
    """The set of the entries that hold no unlike entry."""
    need("kinds", is_pairs(kinds))
    least = []
    lowest = None
    for a, b in sorted(set(kinds)):
        # All entries ahead are no wider, so only their lowest one can be held.
        if lowest is None or b < lowest:
            least.append((a, b))
            lowest = b
    return tuple(least)


def closed_from(lists, kinds):
    """The set of all kinds of the lists that hold an entry of kinds."""
    need("kinds", is_kinds(lists, kinds))
    closed = []
    for a in range(len(lists[0])):
        for b in range(len(lists[1])):
            if any([holds((a, b), entry) for entry in kinds]):
                closed.append((a, b))
    return tuple(closed)


def is_closed(lists, kinds):
    """True if the set has, with each kind, all kinds that hold it, else False."""
    need("kinds", is_kinds(lists, kinds))
    return closed_from(lists, kinds) == kinds
