"""The need of any number of copies of a lot."""

from onesheetmore.areas import area_sheets, block_of, blocks_in, fewest_blocks, is_sheet_of_blocks, smallest_in_block
from onesheetmore.common import need
from onesheetmore.fewest import fewest
from onesheetmore.kinds import is_lot, is_number
from onesheetmore.lots import area_of, lot_times
from onesheetmore.stocks import stock_of
from onesheetmore.verdicts import goes_in

LIMIT = 200


def blocks_for(lists, lot, many):
    """The fewest blocks of many copies."""
    return fewest_blocks(lists, lot_times(lists, lot, many))


def copies_period(lists):
    """How many smallest shares a block has."""
    return smallest_in_block(lists)


def copies_for(lists, lot, sheet, many):
    """The fewest sheets of many copies."""
    need("lot", is_lot(lists, lot))
    need("sheet", is_sheet_of_blocks(lists, sheet))
    return fewest(lists, lot_times(lists, lot, many), sheet)


def need_copied(lists, lot, sheet):
    """Refuse a lot without pieces, and what is no sheet of blocks."""
    need("lot", is_lot(lists, lot) and lot != ())
    need("sheet", is_sheet_of_blocks(lists, sheet))


def most_copies(lists, lot, sheet, sheets):
    """The most copies that go into so many sheets."""
    need_copied(lists, lot, sheet)
    need("sheets", is_number(sheets))
    width, height = block_of(lists)
    stock = stock_of(sheet, sheets)
    least, most = 0, sheets * blocks_in(lists, sheet) * width * height // area_of(lists, lot)
    while least < most:
        middle = (least + most + 1) // 2
        if goes_in(lists, stock, lot_times(lists, lot, middle)):
            least = middle
        else:
            most = middle - 1
    return least


def first_one_more(lists, lot, limit):
    """The least number of copies, up to limit, that need one block more than their area asks for, or None."""
    need("lot", is_lot(lists, lot))
    need("limit", is_number(limit) and limit <= LIMIT)
    block = block_of(lists)
    for many in range(1, limit + 1):
        copies = lot_times(lists, lot, many)
        if not goes_in(lists, stock_of(block, area_sheets(lists, copies, block)), copies):
            return many
    return None
