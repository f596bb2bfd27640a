"""The least rolls of a lot."""

from onesheetmore.common import need
from onesheetmore.kinds import is_lot
from onesheetmore.lots import pieces_in
from onesheetmore.roundings import is_roll_width, need_whole_width, roll_by
from onesheetmore.staircases import staircases_of
from onesheetmore.verdicts import goes_in


def need_roll(lists, lot, width):
    """Refuse a lot and a width as roll_by does."""
    need("lot", is_lot(lists, lot))
    need("width", is_roll_width(lists, width))
    need_whole_width(lists, width)


def goes_on_roll(lists, lot, width, length):
    """True if the lot goes into a sheet so wide and so long, which may be 0, else False."""
    stock = () if length == 0 else ((width, length, 1),)
    return goes_in(lists, stock, lot)


def least_roll(lists, lot, width):
    """The least length of a sheet of this width on which the lot can be spread."""
    need_roll(lists, lot, width)
    # All pieces one upon the other are long enough; between multiples of the lowest height nothing changes.
    low = lists[1][0]
    least, most = 0, pieces_in(lists, lot) * (lists[1][-1] // low)
    while least < most:
        middle = (least + most) // 2
        if goes_on_roll(lists, lot, width, middle * low):
            most = middle
        else:
            least = middle + 1
    return least * low


def roll_staircase(lists, lot, width):
    """A staircase by widths that asks for the least length."""
    need_roll(lists, lot, width)
    most, telling = -1, None
    for staircase in staircases_of(lists, "widths"):
        length = roll_by(lists, lot, width, staircase)
        if length > most:
            most, telling = length, staircase
    return telling
