"""Sheets and orders that show why a set of kinds without a rule can not be served at once."""

from onesheetmore.common import need, rounded_up
from onesheetmore.kinds import is_kind, is_number, is_sheet, is_tuple_of
from onesheetmore.openings import free_place
from onesheetmore.overs import crosses_over, first_over
from onesheetmore.spreadchecker import is_spread_of, pieces_lot
from onesheetmore.stocks import stock_of


def foe_over(lists, x, y, z):
    """The foe of three kinds of which y and z cross over x."""
    widths, heights = lists
    width, height = widths[y[0]], heights[z[1]]
    across, up = width // widths[x[0]], height // heights[x[1]]
    taken_across = rounded_up(widths[z[0]], widths[x[0]])
    taken_up = rounded_up(heights[y[1]], heights[x[1]])
    many = min((up - taken_up) * across, up * (across - taken_across))
    return ((width, height), x, many, y, z)


def foe_of(lists, kinds):
    """(sheet, x, many, y, z): where so many pieces x leave no place for y or none for z; None if there is a rule."""
    over = first_over(lists, kinds)
    if over is None:
        return None
    x, y, z = over
    return foe_over(lists, x, y, z)


def is_foe(lists, thing):
    """True if thing is the foe of some set of kinds of the lists, else False."""
    if not is_tuple_of(thing, 5) or not is_sheet(thing[0]) or not is_number(thing[2]):
        return False
    _, x, _, y, z = thing
    if not is_kind(lists, x) or not is_kind(lists, y) or not is_kind(lists, z):
        return False
    # Of the set of x, y and z alone this is the first triple, as it is the only one.
    return crosses_over(x, y, z) and foe_over(lists, x, y, z) == thing


def foe_asks(lists, foe, spread):
    """The kind of the foe, y or z, of which no further piece has a place beside the pieces x."""
    need("foe", is_foe(lists, foe))
    sheet, x, many, y, z = foe
    stock = stock_of(sheet, 1)
    need("spread", is_spread_of(lists, stock, spread) and pieces_lot(lists, spread) == ((*x, many),))
    return y if free_place(lists, stock, spread, y[0], y[1]) is None else z
