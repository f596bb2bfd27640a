"""What a laying leaves free."""

from onesheetmore.boxes import boxes_with, finer, ground_in, grounds_meet
from onesheetmore.layingkinds import need_laying
from onesheetmore.shares import need_kind


def span_cut(span, other):
    """The span's numbers ahead of those of other, among them, and behind them; many may be 0 or less."""
    start, end = span[0], span[0] + span[1]
    first, last = max(start, other[0]), min(end, other[0] + other[1])
    return ((start, first - start), (first, last - first), (last, end - last))


def box_without(box, other):
    """Boxes of the shares of one box that are not in another one of this kind."""
    a, b, sort, sheets, columns, rows = box
    sheets_ahead, in_sheets, sheets_behind = span_cut(sheets, other[3])
    columns_ahead, in_columns, columns_behind = span_cut(columns, other[4])
    rows_ahead, in_rows, rows_behind = span_cut(rows, other[5])
    if sort != other[2] or min(in_sheets[1], in_columns[1], in_rows[1]) <= 0:
        return (box,)
    return boxes_with((a, b, sort), [
        (sheets_ahead, columns, rows), (sheets_behind, columns, rows),
        (in_sheets, columns_ahead, rows), (in_sheets, columns_behind, rows),
        (in_sheets, in_columns, rows_ahead), (in_sheets, in_columns, rows_behind)])


def rests_of(lists, stock, laying):
    """Boxes of all smallest shares of the stock on which no piece lies."""
    need_laying(lists, stock, laying)
    rests = []
    for sort, (width, height, many) in enumerate(stock):
        whole = ((0, many), (0, width // lists[0][0]), (0, height // lists[1][0]))
        rests.extend(boxes_with((0, 0, sort), [whole]))
    for box in laying:
        taken = finer(lists, box, 0, 0)
        rests = [part for rest in rests for part in box_without(rest, taken)]
    return tuple(rests)


def free_shares(lists, stock, laying, a, b):
    """All (sort, sheet, column, row) of shares (a, b) that have no ground in common with a piece."""
    need_laying(lists, stock, laying)
    need_kind(lists, a, b)
    grounds = [ground_in(lists, box) for box in laying]
    free = []
    for sort, (width, height, many) in enumerate(stock):
        for sheet in range(many):
            own = [ground for ground in grounds if ground[0] == sort and ground[1] <= sheet <= ground[2]]
            for column in range(width // lists[0][a]):
                for row in range(height // lists[1][b]):
                    share = ground_in(lists, (a, b, sort, (sheet, 1), (column, 1), (row, 1)))
                    if not any([grounds_meet(share, ground) for ground in own]):
                        free.append((sort, sheet, column, row))
    return tuple(free)


def numbers_in(spans):
    """How many numbers lie in at least one of the spans."""
    total, end = 0, 0
    for start, many in sorted(spans):
        total = total + max(0, start + many - max(start, end))
        end = max(end, start + many)
    return total


def used_sheets(lists, stock, laying):
    """For each sort how many of its sheets have at least one piece."""
    need_laying(lists, stock, laying)
    return tuple([numbers_in([box[3] for box in laying if box[2] == sort]) for sort in range(len(stock))])
