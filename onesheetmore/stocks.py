"""Reckoning with stocks."""

from onesheetmore.common import lessened, merged, need
from onesheetmore.kinds import is_index, is_number, is_stock


def need_sheet(stock, sort, sheet):
    """Refuse the first of sort and sheet that is no index of the stock's."""
    need("sort", is_index(sort, len(stock)))
    need("sheet", is_index(sheet, stock[sort][2]))


def stock_of(sheet, many):
    """The stock of so many such sheets; () for 0."""
    return () if many == 0 else ((*sheet, many),)


def sheets_in(stock):
    """How many sheets the stock has."""
    return sum([many for _, _, many in stock])


def settled_stock(stock):
    """The same sheets, alike ones in one triple, ascending."""
    return merged(stock)


def stock_plus(stock, other):
    """The sheets of both, settled."""
    need("other", is_stock(other))
    return merged([*stock, *other])


def stock_minus(stock, other):
    """The sheets of stock without those of other, settled."""
    need("other", is_stock(other))
    left = lessened(stock, other)
    need("other", left is not None)
    return left


def first_sheets_of(stock, many):
    """The first many sheets of the stock, sort by sort, not settled."""
    need("many", is_number(many) and many <= sheets_in(stock))
    sorts = []
    missing = many
    for width, height, count in stock:
        taken = min(count, missing)
        if taken > 0:
            sorts.append((width, height, taken))
        missing = missing - taken
    return tuple(sorts)
