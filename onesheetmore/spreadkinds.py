"""What tells pieces and tuples of them from other values."""

from onesheetmore.kinds import is_kind, is_number, is_quotient, is_tuple_of


def is_place(thing):
    """True if thing is a quotient that is not below 0, else False."""
    return is_quotient(thing) and thing[0] >= 0


def is_piece(lists, thing):
    """True if thing is a piece of the lists, else False."""
    if not is_tuple_of(thing, 6) or not is_kind(lists, thing[:2]):
        return False
    _, _, sort, sheet, x, y = thing
    return is_number(sort) and is_number(sheet) and is_place(x) and is_place(y)


def is_spread(lists, thing):
    """True if thing is a tuple of pieces of the lists, else False."""
    return isinstance(thing, tuple) and all([is_piece(lists, entry) for entry in thing])
