"""Rooms, wants and what is left of a stock and a lot."""

from onesheetmore.common import need
from onesheetmore.kinds import is_lot
from onesheetmore.listforms import turned_lists, turned_lot, turned_stock
from onesheetmore.shares import top_part


def wants_at(lists, lot, b, i):
    """wants(b, i) by heights: the pieces of height b, measured by width i."""
    widths = lists[0]
    return sum([many * (widths[a] // widths[i]) for a, high, many in lot if high == b and a >= i])


def band_rooms(lists, stock, b, i):
    """The rooms (b, i) by heights that the sheets' top bands alone have."""
    return sum([
        many * top_part(lists[1], height, b) * (width // lists[0][i])
        for width, height, many in stock])


def left_at(widths, rooms, wants, i):
    """left(b, i) by heights, from the rooms and wants at b."""
    return min([(rooms[k] - wants[k]) * widths[k] // widths[i] for k in range(i + 1)])


def rooms_by_heights(lists, stock, lot):
    """(rooms, wants, left) for each height index, each a tuple by the width index."""
    need("lot", is_lot(lists, lot))
    widths, heights = lists
    indexes = range(len(widths))
    above = [0 for _ in indexes]
    rows = []
    for b in reversed(range(len(heights))):
        ratio = heights[b + 1] // heights[b] if rows else 0
        rooms = tuple([band_rooms(lists, stock, b, i) + ratio * above[i] for i in indexes])
        wants = tuple([wants_at(lists, lot, b, i) for i in indexes])
        left = tuple([left_at(widths, rooms, wants, i) for i in indexes])
        rows.append((rooms, wants, left))
        above = left
    return tuple(rows[::-1])


def rooms_by_widths(lists, stock, lot):
    """(rooms, wants, left) for each width index, each a tuple by the height index."""
    need("lot", is_lot(lists, lot))
    return rooms_by_heights(turned_lists(lists), turned_stock(stock), turned_lot(lists, lot))
