"""Where shares lie, and in which others."""

from onesheetmore.common import need
from onesheetmore.kinds import is_index, is_kind, is_number
from onesheetmore.shares import need_kind


def need_own(lists, sheet, a, b, column, row):
    """Refuse the first of the four that makes no share of the sheet's own."""
    need_kind(lists, a, b)
    need("column", is_index(column, sheet[0] // lists[0][a]))
    need("row", is_index(row, sheet[1] // lists[1][b]))


def ground_of(lists, a, b, column, row):
    """The (left, bottom, right, top) of the share."""
    need_kind(lists, a, b)
    need("column", is_number(column))
    need("row", is_number(row))
    width, height = lists[0][a], lists[1][b]
    return (column * width, row * height, (column + 1) * width, (row + 1) * height)


def is_share(lists, sheet, a, b, column, row):
    """True if the sheet has this share, else False."""
    _, _, right, top = ground_of(lists, a, b, column, row)
    return right <= sheet[0] and top <= sheet[1]


def share_over(lists, kind, column, row, wide, high):
    """The (column, row) of the share (wide, high) in which the share lies."""
    need("kind", is_kind(lists, kind))
    need("column", is_number(column))
    need("row", is_number(row))
    need("wide", is_index(wide, len(lists[0])) and wide >= kind[0])
    need("high", is_index(high, len(lists[1])) and high >= kind[1])
    across = lists[0][wide] // lists[0][kind[0]]
    up = lists[1][high] // lists[1][kind[1]]
    return (column // across, row // up)


def share_under(lists, kind, column, row, wide, high):
    """The spans (columns, rows) of the shares (wide, high) that lie in the share."""
    need("kind", is_kind(lists, kind))
    need("column", is_number(column))
    need("row", is_number(row))
    need("wide", is_index(wide, kind[0] + 1))
    need("high", is_index(high, kind[1] + 1))
    across = lists[0][kind[0]] // lists[0][wide]
    up = lists[1][kind[1]] // lists[1][high]
    return ((column * across, across), (row * up, up))


def top_place(sizes, side, index, place):
    """The greatest size whose part at the place is within the side: its index and its place."""
    start = place * sizes[index]
    fitting = [i for i in range(index, len(sizes)) if start // sizes[i] < side // sizes[i]]
    return (fitting[-1], start // sizes[fitting[-1]])


def top_over(lists, sheet, a, b, column, row):
    """The (a, b, column, row) of the top share in which the share lies."""
    need_own(lists, sheet, a, b, column, row)
    wide, over_column = top_place(lists[0], sheet[0], a, column)
    high, over_row = top_place(lists[1], sheet[1], b, row)
    return (wide, high, over_column, over_row)
