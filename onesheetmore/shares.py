"""How many shares sheets have."""

from onesheetmore.common import need
from onesheetmore.errors import Unfit
from onesheetmore.kinds import is_index, is_number


def need_kind(lists, a, b):
    """Refuse the first of a and b that is no index of its row."""
    need("a", is_index(a, len(lists[0])))
    need("b", is_index(b, len(lists[1])))


def top_part(sizes, side, index):
    """How often the size goes into the rest that the next greater one leaves of the side."""
    rest = side if index + 1 == len(sizes) else side % sizes[index + 1]
    return rest // sizes[index]


def top_parts(sizes, side):
    """As top_part, for each size."""
    return tuple([top_part(sizes, side, i) for i in range(len(sizes))])


def share_count(lists, sheet, a, b):
    """How many shares (a, b) the sheet has."""
    need_kind(lists, a, b)
    return (sheet[0] // lists[0][a]) * (sheet[1] // lists[1][b])


def need_shares(lists, lot, sheet):
    """Unfit(kind) for the first kind of the lot of which the sheet has no share."""
    for a, b, _ in lot:
        if share_count(lists, sheet, a, b) == 0:
            raise Unfit((a, b))


def columns_in(lists, width):
    """The top columns of a sheet so wide, for each width index."""
    need("width", is_number(width))
    return top_parts(lists[0], width)


def bands_in(lists, height):
    """The top bands of a sheet so high, for each height index."""
    need("height", is_number(height))
    return top_parts(lists[1], height)


def top_shares(lists, sheet):
    """How many top shares of each kind the sheet has."""
    tops = []
    for a, columns in enumerate(columns_in(lists, sheet[0])):
        for b, bands in enumerate(bands_in(lists, sheet[1])):
            if columns > 0 and bands > 0:
                tops.append((a, b, columns * bands))
    return tuple(tops)


def stock_shares(lists, stock, a, b):
    """How many shares (a, b) the sheets of the stock have together."""
    need_kind(lists, a, b)
    return sum([many * share_count(lists, (width, height), a, b) for width, height, many in stock])
