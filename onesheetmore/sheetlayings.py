"""Layings sheet by sheet."""

from onesheetmore.boxes import is_among
from onesheetmore.layingkinds import need_laying
from onesheetmore.stocks import need_sheet


def boxes_on(laying, sort, sheet):
    """The boxes in this sheet, as those of a stock of this one sheet, in the same sequence."""
    return tuple([
        (a, b, 0, (0, 1), columns, rows) for a, b, its_sort, sheets, columns, rows in laying
        if its_sort == sort and is_among(sheets, sheet)])


def on_sheet(lists, stock, laying, sort, sheet):
    """The part of the laying in this sheet, as a laying of the stock of this one sheet."""
    need_laying(lists, stock, laying)
    need_sheet(stock, sort, sheet)
    return boxes_on(laying, sort, sheet)


def like_spans(boxes, sort, many):
    """The longest spans of the sort's sheets that all hold the same boxes."""
    own = [box for box in boxes if box[2] == sort]
    # Only where some span of sheets begins or ends can the boxes be others than one sheet ahead.
    ends = [sheets[0] + sheets[1] for _, _, _, sheets, _, _ in own]
    places = sorted(set([0, *[box[3][0] for box in own], *[end for end in ends if end < many]]))
    runs = []
    for place in places:
        held = sorted(boxes_on(own, sort, place))
        if len(runs) == 0 or runs[-1][1] != held:
            runs.append((place, held))
    starts = [run[0] for run in runs]
    return [(start, end - start) for start, end in zip(starts, [*starts[1:], many])]


def like_sheets(lists, stock, laying):
    """Pairs (sort, span): the longest spans of sheets that all hold the same boxes."""
    need_laying(lists, stock, laying)
    pairs = []
    for sort, (_, _, many) in enumerate(stock):
        pairs.extend([(sort, span) for span in like_spans(laying, sort, many)])
    return tuple(pairs)
