"""The readings of staircases."""

from onesheetmore.common import need
from onesheetmore.kinds import is_lot
from onesheetmore.listforms import turned_lists, turned_lot, turned_stock
from onesheetmore.rooms import band_rooms, wants_at
from onesheetmore.staircases import is_staircase


def reading_by_heights(lists, stock, lot, steps):
    """The numbers of a staircase by heights with these steps."""
    widths, heights = lists
    numbers = []
    for i, step in enumerate(steps):
        b = len(heights) - 1 - i
        number = band_rooms(lists, stock, b, step) - wants_at(lists, lot, b, step)
        if i >= 1:
            held = numbers[-1] * widths[steps[i - 1]] // widths[step]
            number = number + held * (heights[b + 1] // heights[b])
        numbers.append(number)
    return tuple(numbers)


def reading(lists, stock, lot, staircase):
    """The staircase's numbers, one for each step."""
    need("lot", is_lot(lists, lot))
    need("staircase", is_staircase(lists, staircase))
    way, steps = staircase
    if way == "heights":
        return reading_by_heights(lists, stock, lot, steps)
    return reading_by_heights(turned_lists(lists), turned_stock(stock), turned_lot(lists, lot), steps)


def refuses(lists, stock, lot, staircase):
    """True if the last number of the reading is below 0, else False."""
    return reading(lists, stock, lot, staircase)[-1] < 0
