"""The kinds of values, and the first fault of lists and lots."""

from math import gcd


def is_integer(thing):
    """True if thing is an integer, else False."""
    return isinstance(thing, int) and not isinstance(thing, bool)


def is_number(thing):
    """True if thing is a number, else False."""
    return is_integer(thing) and thing >= 0


def is_count(thing):
    """True if thing is a number from 1 on, else False."""
    return is_integer(thing) and thing >= 1


def is_index(thing, many):
    """True if thing is a number below many, else False."""
    return is_number(thing) and thing < many


def is_tuple_of(thing, many):
    """True if thing is a tuple of so many entries, else False."""
    return isinstance(thing, tuple) and len(thing) == many


def is_pair_of_numbers(thing):
    """True if thing is a pair of numbers, else False."""
    return is_tuple_of(thing, 2) and is_number(thing[0]) and is_number(thing[1])


def is_span(thing):
    """True if thing is a span, else False."""
    return is_tuple_of(thing, 2) and is_number(thing[0]) and is_count(thing[1])


def is_quotient(thing):
    """True if thing is a quotient, else False."""
    if not is_tuple_of(thing, 2) or not is_integer(thing[0]) or not is_count(thing[1]):
        return False
    return gcd(thing[0], thing[1]) == 1


def row_fault(side, sizes):
    """The first fault of one row of sizes, as (word, at), or None."""
    if not isinstance(sizes, tuple) or len(sizes) == 0:
        return ("side", side)
    for i, size in enumerate(sizes):
        if not is_count(size):
            return ("size", (side, i))
        if i >= 1 and (size <= sizes[i - 1] or size % sizes[i - 1] != 0):
            return ("step", (side, i))
    return None


def lists_fault(thing):
    """The first fault of thing as lists, as (word, at), or None if it is lists."""
    if not is_tuple_of(thing, 2):
        return ("lists", -1)
    for side, sizes in enumerate(thing):
        fault = row_fault(side, sizes)
        if fault is not None:
            return fault
    return None


def is_lists(thing):
    """True if thing is lists, else False."""
    return lists_fault(thing) is None


def is_kind(lists, thing):
    """True if thing is a kind of the lists, else False."""
    if not is_tuple_of(thing, 2):
        return False
    return is_index(thing[0], len(lists[0])) and is_index(thing[1], len(lists[1]))


def lot_fault(lists, thing):
    """The first fault of thing as a lot of the lists, as (word, at), or None if it is one."""
    if not isinstance(thing, tuple):
        return ("lot", -1)
    for i, entry in enumerate(thing):
        if not is_tuple_of(entry, 3):
            return ("entry", i)
        if not is_kind(lists, entry[:2]):
            return ("kind", i)
        if not is_count(entry[2]):
            return ("many", i)
        if i >= 1 and entry[:2] <= thing[i - 1][:2]:
            return ("sequence", i)
    return None


def is_lot(lists, thing):
    """True if thing is a lot of the lists, else False."""
    return lot_fault(lists, thing) is None


def is_sheet(thing):
    """True if thing is a sheet, else False."""
    return is_tuple_of(thing, 2) and is_count(thing[0]) and is_count(thing[1])


def is_sort(thing):
    """True if thing is a triple of numbers from 1 on, as those of a stock, else False."""
    return is_tuple_of(thing, 3) and is_sheet(thing[:2]) and is_count(thing[2])


def is_stock(thing):
    """True if thing is a stock, else False."""
    return isinstance(thing, tuple) and all([is_sort(entry) for entry in thing])


def is_kinds(lists, thing):
    """True if thing is a set of kinds of the lists, else False."""
    if not isinstance(thing, tuple) or not all([is_kind(lists, entry) for entry in thing]):
        return False
    return all([thing[i] < thing[i + 1] for i in range(len(thing) - 1)])
