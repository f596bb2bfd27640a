"""A laying with its lists and its stock."""

from onesheetmore.boxes import shares_of
from onesheetmore.common import need
from onesheetmore.layingkinds import is_laying
from onesheetmore.lookups import laying_lot, nth_piece, piece_at, piece_number
from onesheetmore.rests import rests_of, used_sheets
from onesheetmore.sheetlayings import on_sheet


def common_numbers(span, other):
    """How many numbers two spans have in common."""
    return max(0, min(span[0] + span[1], other[0] + other[1]) - max(span[0], other[0]))


def common_shares(box, other):
    """How many shares two boxes have in common."""
    if box[:3] != other[:3]:
        return 0
    sheets, columns, rows = [common_numbers(span, its_span) for span, its_span in zip(box[3:], other[3:])]
    return sheets * columns * rows


def are_alike(boxes, others):
    """True if the boxes of two layings have the same shares, else False."""
    # No share is in two boxes of one laying, so each common one is counted once.
    common = sum([common_shares(box, other) for box in boxes for other in others])
    return common == sum([shares_of(box) for box in boxes]) and common == sum([shares_of(box) for box in others])


class Laying:
    """A laying of the stock."""

    def __init__(self, lists, stock, boxes):
        need("boxes", is_laying(lists, stock, boxes))
        self.lists = lists
        self.stock = stock
        self.boxes = boxes

    def __eq__(self, other):
        if not isinstance(other, Laying) or self.lists != other.lists or self.stock != other.stock:
            return False
        return are_alike(self.boxes, other.boxes)

    def lot_of_it(self):
        """The lot that it lays."""
        return laying_lot(self.lists, self.stock, self.boxes)

    def nth(self, kind, number):
        """The share of the piece of this kind with this number."""
        return nth_piece(self.lists, self.stock, self.boxes, kind, number)

    def number(self, kind, share):
        """The number of the piece of this kind on this share, or None."""
        return piece_number(self.lists, self.stock, self.boxes, kind, share)

    def at_unit(self, sort, sheet, x, y):
        """(a, b, column, row) of the piece over this unit of ground, or None."""
        return piece_at(self.lists, self.stock, self.boxes, sort, sheet, x, y)

    def rests(self):
        """Boxes of all smallest shares on which no piece lies."""
        return rests_of(self.lists, self.stock, self.boxes)

    def used(self):
        """For each sort how many of its sheets have at least one piece."""
        return used_sheets(self.lists, self.stock, self.boxes)

    def on_sheet(self, sort, sheet):
        """The part in this sheet, as a laying of the stock of this one sheet."""
        return on_sheet(self.lists, self.stock, self.boxes, sort, sheet)
