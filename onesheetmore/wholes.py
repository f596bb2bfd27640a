"""Useful sides of sheets, and sheets that are whole one way."""

from onesheetmore.common import need
from onesheetmore.kinds import is_lot, is_sheet
from onesheetmore.listforms import used_lists


def useful_side(sizes, side):
    """The side less the rest that the least size leaves."""
    return side - side % sizes[0]


def is_whole_side(sizes, side):
    """True if no size is at most the side, or the greatest that is divides the useful side."""
    fitting = [size for size in sizes if size <= side]
    return len(fitting) == 0 or useful_side(sizes, side) % fitting[-1] == 0


def useful_width(lists, sheet):
    """The useful width."""
    return useful_side(lists[0], sheet[0])


def useful_height(lists, sheet):
    """The useful height."""
    return useful_side(lists[1], sheet[1])


def is_whole_across(lists, sheet):
    """True if the sheet is whole across, else False."""
    return is_whole_side(lists[0], sheet[0])


def is_whole_up(lists, sheet):
    """True if the sheet is whole up, else False."""
    return is_whole_side(lists[1], sheet[1])


def whole_ways(lists, sheet):
    """The ways in which the sheet is whole: "both", "across", "up" or "neither"."""
    if is_whole_across(lists, sheet):
        return "both" if is_whole_up(lists, sheet) else "across"
    return "up" if is_whole_up(lists, sheet) else "neither"


def is_whole_stock(lists, stock):
    """True if each sheet of the stock is whole one way, else False."""
    return all([whole_ways(lists, (width, height)) != "neither" for width, height, _ in stock])


def is_whole_for(lists, sheet, lot):
    """True if the sheet is whole one way by the lists of the lot's own sizes, else False."""
    need("lot", is_lot(lists, lot))
    used, _ = used_lists(lists, lot)
    return whole_ways(used, sheet) != "neither"


def is_roomy(lists, thing):
    """True if thing is a sheet that holds a block, else False."""
    return is_sheet(thing) and thing[0] >= lists[0][-1] and thing[1] >= lists[1][-1]


def need_roomy(lists, sheet):
    """Refuse a parameter called sheet that is no roomy sheet."""
    need("sheet", is_roomy(lists, sheet))
