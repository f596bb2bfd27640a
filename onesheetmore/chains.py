"""Sets of kinds for which the area tells, and lots for which it does not."""

from onesheetmore.areas import is_sheet_of_blocks
from onesheetmore.common import need
from onesheetmore.kinds import is_count, is_kind, is_kinds
from onesheetmore.kindsets import first_crossing, is_wider_and_lower
from onesheetmore.shares import share_count


def tells_by_area(lists, kinds):
    """True if no two kinds of the set cross, else False."""
    need("kinds", is_kinds(lists, kinds))
    return first_crossing(kinds) is None


def dear_lot(lists, sheet, sheets, y, z):
    """A lot of kinds y and z whose area asks for so many sheets, and that needs one more."""
    need("sheet", is_sheet_of_blocks(lists, sheet))
    need("sheets", is_count(sheets))
    need("y", is_kind(lists, y))
    need("z", is_kind(lists, z) and is_wider_and_lower(y, z))
    shares = share_count(lists, sheet, y[0], z[1])
    ratio = lists[1][z[1]] // lists[1][y[1]]
    return ((*z, 1), (*y, (sheets * shares - 1) * ratio + 1))
