"""Looking into layings: their lot, the numbers and the places of their pieces."""

from onesheetmore.boxes import is_among, shares_of
from onesheetmore.common import need
from onesheetmore.kinds import is_index, is_kind, is_tuple_of
from onesheetmore.layingkinds import lot_of_boxes, need_laying
from onesheetmore.stocks import need_sheet


def is_share_in(lists, stock, kind, thing):
    """True if thing is the (sort, sheet, column, row) of a share of this kind in the stock, else False."""
    if not is_tuple_of(thing, 4) or not is_index(thing[0], len(stock)):
        return False
    width, height, many = stock[thing[0]]
    limits = (many, width // lists[0][kind[0]], height // lists[1][kind[1]])
    return all([is_index(number, limit) for number, limit in zip(thing[1:], limits)])


def boxes_of_kind(laying, kind):
    """The boxes of this kind, in the sequence of the laying."""
    return [box for box in laying if box[:2] == kind]


def nth_in_box(box, number):
    """The (sort, sheet, column, row) of the box's share with this number."""
    _, _, sort, sheets, columns, rows = box
    row = number % rows[1]
    column = number // rows[1] % columns[1]
    sheet = number // (rows[1] * columns[1])
    return (sort, sheets[0] + sheet, columns[0] + column, rows[0] + row)


def laying_lot(lists, stock, laying):
    """The lot that the laying lays."""
    need_laying(lists, stock, laying)
    return lot_of_boxes(laying)


def nth_piece(lists, stock, laying, kind, number):
    """The (sort, sheet, column, row) of the piece of this kind with this number."""
    need_laying(lists, stock, laying)
    need("kind", is_kind(lists, kind))
    boxes = boxes_of_kind(laying, kind)
    need("number", is_index(number, sum([shares_of(own) for own in boxes])))
    ahead = 0
    # The number is one of some box, so the last one is not asked.
    for box in boxes[:-1]:
        if number < ahead + shares_of(box):
            return nth_in_box(box, number - ahead)
        ahead = ahead + shares_of(box)
    return nth_in_box(boxes[-1], number - ahead)


def piece_number(lists, stock, laying, kind, share):
    """The number of the piece of this kind on this share, or None."""
    need_laying(lists, stock, laying)
    need("kind", is_kind(lists, kind))
    need("share", is_share_in(lists, stock, kind, share))
    sort, sheet, column, row = share
    ahead = 0
    for box in boxes_of_kind(laying, kind):
        _, _, its_sort, sheets, columns, rows = box
        if sort == its_sort and is_among(sheets, sheet) and is_among(columns, column) and is_among(rows, row):
            place = (sheet - sheets[0]) * columns[1] + column - columns[0]
            return ahead + place * rows[1] + row - rows[0]
        ahead = ahead + shares_of(box)
    return None


def piece_at(lists, stock, laying, sort, sheet, x, y):
    """(a, b, column, row) of the piece over this unit of ground, or None."""
    need_laying(lists, stock, laying)
    need_sheet(stock, sort, sheet)
    need("x", is_index(x, stock[sort][0]))
    need("y", is_index(y, stock[sort][1]))
    for a, b, its_sort, sheets, columns, rows in laying:
        column, row = x // lists[0][a], y // lists[1][b]
        if sort == its_sort and is_among(sheets, sheet) and is_among(columns, column) and is_among(rows, row):
            return (a, b, column, row)
    return None
