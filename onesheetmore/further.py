"""How many further pieces go in, and how many sheets a lot needs of a stock."""

from onesheetmore.common import need
from onesheetmore.errors import Refused
from onesheetmore.kinds import is_lot
from onesheetmore.lots import lot_plus
from onesheetmore.shares import need_kind, stock_shares
from onesheetmore.stocks import first_sheets_of, sheets_in
from onesheetmore.verdicts import goes_in, refusal


def most_more(lists, stock, lot, a, b):
    """The greatest number of pieces (a, b) that go into the stock together with the lot."""
    need("lot", is_lot(lists, lot))
    need_kind(lists, a, b)
    if not goes_in(lists, stock, lot):
        raise Refused(refusal(lists, stock, lot))
    least, most = 0, stock_shares(lists, stock, a, b)
    while least < most:
        middle = (least + most + 1) // 2
        if goes_in(lists, stock, lot_plus(lists, lot, ((a, b, middle),))):
            least = middle
        else:
            most = middle - 1
    return least


def leading_sheets(lists, stock, lot):
    """The least number of the stock's first sheets into which the lot goes, or None."""
    need("lot", is_lot(lists, lot))
    if not goes_in(lists, stock, lot):
        return None
    least, most = 0, sheets_in(stock)
    while least < most:
        middle = (least + most) // 2
        if goes_in(lists, first_sheets_of(stock, middle), lot):
            most = middle
        else:
            least = middle + 1
    return least


def spare_sheets(lists, stock, lot):
    """How many sheets come after the leading ones, or None."""
    leading = leading_sheets(lists, stock, lot)
    if leading is None:
        return None
    return sheets_in(stock) - leading
