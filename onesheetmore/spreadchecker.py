"""The checker of spreads."""

from onesheetmore.common import let, need
from onesheetmore.kinds import is_index
from onesheetmore.lots import lot_of
from onesheetmore.overlaps import first_overlap, piece_ground
from onesheetmore.quotients import is_below
from onesheetmore.spreadkinds import is_piece


def is_inside(lists, stock, piece):
    """True if the stock has the piece's sheet and the piece is within it, else False."""
    sort, sheet, _, _, right, top = piece_ground(lists, piece)
    if not is_index(sort, len(stock)) or not is_index(sheet, stock[sort][2]):
        return False
    width, height, _ = stock[sort]
    return not is_below((width, 1), right) and not is_below((height, 1), top)


def spread_fault(lists, stock, thing):
    """The first fault of thing as a spread of the stock, as (word, at), or None if it is one."""
    if not isinstance(thing, tuple):
        return ("spread", -1)
    for i, entry in enumerate(thing):
        if not is_piece(lists, entry):
            return ("piece", i)
        if not is_inside(lists, stock, entry):
            return ("inside", i)
    overlap = first_overlap(lists, thing)
    return None if overlap is None else ("overlap", overlap)


def is_spread_of(lists, stock, thing):
    """True if thing is a spread of the stock, else False."""
    return spread_fault(lists, stock, thing) is None


def need_spread(lists, stock, spread):
    """Refuse a parameter called spread that is no spread of the stock."""
    need("spread", is_spread_of(lists, stock, spread))


def pieces_lot(lists, spread):
    """The lot of the pieces of what is known to be a tuple of pieces."""
    return lot_of(lists, tuple([piece[:2] for piece in spread]))


def lets_spread(lists, stock, thing):
    """The lot of the spread; else InvalidPaper."""
    let(spread_fault(lists, stock, thing))
    return pieces_lot(lists, thing)
