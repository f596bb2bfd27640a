"""Rooms on the lines through alike sheets, for pieces at any places."""

from onesheetmore.common import need
from onesheetmore.kinds import is_lot, is_number, is_sheet
from onesheetmore.listforms import turned_lists, turned_lot
from onesheetmore.lots import pieces_in
from onesheetmore.rooms import left_at, wants_at
from onesheetmore.shares import need_shares
from onesheetmore.staircases import is_way


def first_lines(lists, sheet, many):
    """(low, high) of the last height: its lines are taken out of sheets without pieces."""
    bands = sheet[1] // lists[1][-1]
    shares = [many * (sheet[0] // width) for width in lists[0]]
    return (tuple([bands * share for share in shares]), tuple([(bands + 1) * share for share in shares]))


def next_lines(lists, sheet, b, above):
    """(low, high) of height b: its lines are taken out of what (low, high, wants) of the next height leave."""
    widths, heights = lists
    low, high, wants = above
    ratio = heights[b + 1] // heights[b]
    further = sheet[1] // heights[b] - ratio * (sheet[1] // heights[b + 1])
    left = [(left_at(widths, low, wants, i), left_at(widths, high, wants, i)) for i in range(len(widths))]
    return (
        tuple([further * left_high + (ratio - further) * left_low for left_low, left_high in left]),
        tuple([(further + 1) * left_high + (ratio - further - 1) * left_low for left_low, left_high in left]))


def line_rooms_by_heights(lists, sheet, lot, many):
    """(low, high, wants) for each height index, each a tuple by the width index."""
    rows = []
    for b in reversed(range(len(lists[1]))):
        wants = tuple([wants_at(lists, lot, b, i) for i in range(len(lists[0]))])
        lines = next_lines(lists, sheet, b, rows[-1]) if len(rows) > 0 else first_lines(lists, sheet, many)
        rows.append((*lines, wants))
    return tuple(rows[::-1])


def rooms_on_lines(lists, sheet, lot, many, way):
    """As line_rooms, of what are known to be as stated."""
    if way == "heights":
        return line_rooms_by_heights(lists, sheet, lot, many)
    return line_rooms_by_heights(turned_lists(lists), sheet[::-1], turned_lot(lists, lot), many)


def line_rooms(lists, sheet, lot, many, way):
    """(low, high, wants) for each index of this way, each a tuple by the other index."""
    need("lot", is_lot(lists, lot))
    need("many", is_number(many))
    need("way", is_way(way))
    return rooms_on_lines(lists, sheet, lot, many, way)


def line_refusal(lists, sheet, lot, many):
    """The first (way, index, step) for which wants exceed low, or None."""
    need("lot", is_lot(lists, lot))
    need("many", is_number(many))
    for way in ("heights", "widths"):
        rows = rooms_on_lines(lists, sheet, lot, many, way)
        for index in reversed(range(len(rows))):
            low, _, wants = rows[index]
            for step, want in enumerate(wants):
                if want > low[step]:
                    return (way, index, step)
    return None


def fewest_by_lines(lists, lot, sheet):
    """The least number of such sheets that the lines do not refuse."""
    need("lot", is_lot(lists, lot))
    need("sheet", is_sheet(sheet))
    need_shares(lists, lot, sheet)
    # On a sheet for each piece the lot can be spread.
    least, most = 0, pieces_in(lists, lot)
    while least < most:
        middle = (least + most) // 2
        if line_refusal(lists, sheet, lot, middle) is None:
            most = middle
        else:
            least = middle + 1
    return least
