"""Staircases that count sheets and lengths by rounding up."""

from onesheetmore.common import need, rounded_up
from onesheetmore.errors import NotWhole
from onesheetmore.kinds import is_lot, is_number
from onesheetmore.listforms import turned_lists, turned_lot
from onesheetmore.rooms import wants_at
from onesheetmore.staircases import is_staircase
from onesheetmore.wholes import is_whole_across, is_whole_up, need_roomy, useful_side


def rounding_by_heights(lists, lot, steps):
    """The numbers of a staircase by heights with these steps, the last step's first."""
    widths, heights = lists
    numbers = []
    for i in reversed(range(len(steps))):
        b = len(heights) - 1 - i
        number = wants_at(lists, lot, b, steps[i])
        if len(numbers) > 0:
            bands = rounded_up(numbers[-1], heights[b] // heights[b - 1])
            number = number + widths[steps[i + 1]] // widths[steps[i]] * bands
        numbers.append(number)
    return tuple(numbers)


def rounding(lists, lot, staircase):
    """The staircase's numbers, rounded up from step to step, the last step's first."""
    need("lot", is_lot(lists, lot))
    need("staircase", is_staircase(lists, staircase))
    way, steps = staircase
    if way == "heights":
        return rounding_by_heights(lists, lot, steps)
    return rounding_by_heights(turned_lists(lists), turned_lot(lists, lot), steps)


def sheets_by(lists, lot, sheet, staircase):
    """How many such sheets the staircase asks for."""
    need("lot", is_lot(lists, lot))
    need_roomy(lists, sheet)
    need("staircase", is_staircase(lists, staircase))
    widths, heights = lists
    way, steps = staircase
    if way == "heights":
        is_whole, shares = is_whole_up(lists, sheet), (sheet[0] // widths[steps[0]]) * (sheet[1] // heights[-1])
    else:
        is_whole, shares = is_whole_across(lists, sheet), (sheet[0] // widths[-1]) * (sheet[1] // heights[steps[0]])
    if not is_whole:
        raise NotWhole(0)
    return rounded_up(rounding(lists, lot, staircase)[-1], shares)


def is_roll_width(lists, thing):
    """True if thing is a number not below the widest width, else False."""
    return is_number(thing) and thing >= lists[0][-1]


def need_whole_width(lists, width):
    """NotWhole(0) unless the widest width divides the useful part of the width."""
    if useful_side(lists[0], width) % lists[0][-1] != 0:
        raise NotWhole(0)


def roll_by(lists, lot, width, staircase):
    """The length of a roll of this width that the staircase by widths asks for."""
    need("lot", is_lot(lists, lot))
    need("width", is_roll_width(lists, width))
    need("staircase", is_staircase(lists, staircase) and staircase[0] == "widths")
    need_whole_width(lists, width)
    numbers = rounding(lists, lot, staircase)
    return rounded_up(numbers[-1], width // lists[0][-1]) * lists[1][staircase[1][0]]
