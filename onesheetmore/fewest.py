"""The fewest sheets of a lot."""

from onesheetmore.common import need
from onesheetmore.errors import NotWhole
from onesheetmore.kinds import is_lot, is_sheet
from onesheetmore.lots import pieces_in
from onesheetmore.roundings import sheets_by
from onesheetmore.shares import need_shares
from onesheetmore.staircases import staircases_of
from onesheetmore.stocks import stock_of
from onesheetmore.verdicts import goes_in
from onesheetmore.wholes import is_whole_up, need_roomy, whole_ways


def need_whole_sheet(lists, lot, sheet):
    """Refuse a lot and a roomy sheet; NotWhole(0) if the sheet is whole neither way."""
    need("lot", is_lot(lists, lot))
    need_roomy(lists, sheet)
    if whole_ways(lists, sheet) == "neither":
        raise NotWhole(0)


def least_sheets(lists, lot, sheet):
    """The least number of such sheets into which the lot goes; each kind has a share in a sheet."""
    # A sheet for each piece is enough, whatever the sheet.
    least, most = 0, pieces_in(lists, lot)
    while least < most:
        middle = (least + most) // 2
        if goes_in(lists, stock_of(sheet, middle), lot):
            most = middle
        else:
            least = middle + 1
    return least


def fewest(lists, lot, sheet):
    """The fewest sheets."""
    need_whole_sheet(lists, lot, sheet)
    return least_sheets(lists, lot, sheet)


def fewest_in_shares(lists, lot, sheet):
    """The least number of such sheets into which the lot goes."""
    need("lot", is_lot(lists, lot))
    need("sheet", is_sheet(sheet))
    need_shares(lists, lot, sheet)
    return least_sheets(lists, lot, sheet)


def telling_staircase(lists, lot, sheet):
    """A staircase that asks for the fewest sheets."""
    need_whole_sheet(lists, lot, sheet)
    way = "heights" if is_whole_up(lists, sheet) else "widths"
    most, telling = -1, None
    for staircase in staircases_of(lists, way):
        sheets = sheets_by(lists, lot, sheet, staircase)
        if sheets > most:
            most, telling = sheets, staircase
    return telling
