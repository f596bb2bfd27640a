"""The lines of lists, lots and stocks."""

from onesheetmore.common import need
from onesheetmore.kinds import is_lot


def lists_line(lists):
    """The line of the lists."""
    across = " ".join([str(size) for size in lists[0]])
    up = " ".join([str(size) for size in lists[1]])
    return f"{across} | {up}"


def lot_words(lot):
    """The words of the line of a lot, whatever its lists."""
    return [f"{a},{b}*{many}" for a, b, many in lot]


def lot_line(lists, lot):
    """The line of the lot."""
    need("lot", is_lot(lists, lot))
    return " ".join(lot_words(lot))


def stock_line(stock):
    """The line of the stock."""
    return " ".join([f"{width}x{height}*{many}" for width, height, many in stock])
