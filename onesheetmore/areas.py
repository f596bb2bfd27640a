"""Sheets by areas, sheets of blocks, fewest blocks."""

from onesheetmore.common import need, rounded_up
from onesheetmore.fewest import fewest
from onesheetmore.kinds import is_lot
from onesheetmore.lots import area_of
from onesheetmore.wholes import is_roomy, need_roomy, useful_height, useful_width


def block_of(lists):
    """The block, a sheet."""
    return (lists[0][-1], lists[1][-1])


def smallest_in_block(lists):
    """How many smallest shares a block has."""
    width, height = block_of(lists)
    return (width // lists[0][0]) * (height // lists[1][0])


def area_sheets(lists, lot, sheet):
    """The lot's area over the useful area of the sheet, rounded up."""
    need("lot", is_lot(lists, lot))
    need_roomy(lists, sheet)
    return rounded_up(area_of(lists, lot), useful_width(lists, sheet) * useful_height(lists, sheet))


def is_one_more(lists, lot, sheet):
    """True if the fewest sheets are one more than the area asks for, else False."""
    return fewest(lists, lot, sheet) == area_sheets(lists, lot, sheet) + 1


def blocks_in(lists, sheet):
    """The number of blocks of which the roomy sheet is one, or None."""
    need_roomy(lists, sheet)
    width, height = block_of(lists)
    across, up = useful_width(lists, sheet), useful_height(lists, sheet)
    if across % width != 0 or up % height != 0:
        return None
    return (across // width) * (up // height)


def is_sheet_of_blocks(lists, thing):
    """True if thing is a sheet of blocks, else False."""
    return is_roomy(lists, thing) and blocks_in(lists, thing) is not None


def fewest_blocks(lists, lot):
    """The fewest blocks."""
    return fewest(lists, lot, block_of(lists))


def tells_at_once(lists, lot):
    """True if the lot's area alone tells that no block more is needed, else False."""
    need("lot", is_lot(lists, lot))
    across, up = lists[0][-1] // lists[0][0], lists[1][-1] // lists[1][0]
    cells = area_of(lists, lot) // (lists[0][0] * lists[1][0])
    # Of a whole number of blocks all of the last one counts.
    return cells == 0 or (cells - 1) % (across * up) + 1 < across + up
