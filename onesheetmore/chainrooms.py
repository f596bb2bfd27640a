"""Lots no two kinds of which cross: areas alone tell whether they go in."""

from onesheetmore.common import need, rounded_up
from onesheetmore.kinds import is_lot, is_sheet
from onesheetmore.kindsets import first_crossing
from onesheetmore.shares import need_shares, share_count, stock_shares


def is_chain_lot(lists, thing):
    """True if thing is a lot no two kinds of which cross, else False."""
    return is_lot(lists, thing) and first_crossing(tuple([entry[:2] for entry in thing])) is None


def chain_wants(lists, lot, at):
    """How many shares of the lot's kind at this index its pieces from there on take."""
    area = lists[0][lot[at][0]] * lists[1][lot[at][1]]
    # No two kinds cross, so the kinds behind one are those that hold it.
    return sum([lists[0][a] * lists[1][b] // area * many for a, b, many in lot[at:]])


def chain_rooms(lists, stock, lot):
    """(kind, rooms, wants) for each kind of the lot."""
    need("lot", is_chain_lot(lists, lot))
    return tuple([
        ((a, b), stock_shares(lists, stock, a, b), chain_wants(lists, lot, at)) for at, (a, b, _) in enumerate(lot)])


def chain_goes(lists, stock, lot):
    """True if no wants exceed their rooms, else False."""
    return all([wants <= rooms for _, rooms, wants in chain_rooms(lists, stock, lot)])


def chain_sheets(lists, lot, sheet):
    """The fewest such sheets."""
    need("lot", is_chain_lot(lists, lot))
    need("sheet", is_sheet(sheet))
    need_shares(lists, lot, sheet)
    return max([
        0, *[rounded_up(chain_wants(lists, lot, at), share_count(lists, sheet, a, b))
             for at, (a, b, _) in enumerate(lot)]])
