"""What is left over of the sheets of a laying when they are sawn."""

from onesheetmore.common import merged
from onesheetmore.plans import rests_in_plan
from onesheetmore.sawing import sawn_sheet
from onesheetmore.sheetlayings import boxes_on, like_sheets


def rests_sawn(lists, stock, laying):
    """The rests of the plans of all sheets in which a piece lies, as a settled stock."""
    rests = []
    # Sheets that hold the same boxes are sawn alike: there may be very many.
    for sort, (first, many) in like_sheets(lists, stock, laying):
        boxes = boxes_on(laying, sort, first)
        if len(boxes) > 0:
            sheet = stock[sort][:2]
            rests.extend(rests_in_plan(sawn_sheet(lists, sheet, boxes), sheet, many))
    return merged(rests)


def is_offcut(lists, width, height):
    """True if a part with these sides holds a smallest share, else False."""
    return width >= lists[0][0] and height >= lists[1][0]


def offcuts_of(lists, stock, laying):
    """The rests that hold a smallest share, as a settled stock."""
    return tuple([rest for rest in rests_sawn(lists, stock, laying) if is_offcut(lists, rest[0], rest[1])])


def scraps_of(lists, stock, laying):
    """The area of all rests that hold no smallest share."""
    rests = rests_sawn(lists, stock, laying)
    return sum([width * height * many for width, height, many in rests if not is_offcut(lists, width, height)])
