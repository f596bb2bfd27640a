"""A lot with its lists."""

from onesheetmore.common import need
from onesheetmore.kinds import is_kind, is_lot
from onesheetmore.lots import area_of, count_in, lot_minus, lot_plus, lot_times, pieces_in, split_kind


class Lot:
    """A lot with its lists; it never changes."""

    def __init__(self, lists, lot):
        need("lot", is_lot(lists, lot))
        self.lists = lists
        self.lot = lot

    def __add__(self, other):
        need("other", isinstance(other, Lot) and other.lists == self.lists)
        return Lot(self.lists, lot_plus(self.lists, self.lot, other.lot))

    def __sub__(self, other):
        need("other", isinstance(other, Lot) and other.lists == self.lists)
        return Lot(self.lists, lot_minus(self.lists, self.lot, other.lot))

    def __eq__(self, other):
        return isinstance(other, Lot) and self.lists == other.lists and self.lot == other.lot

    def __contains__(self, thing):
        return is_kind(self.lists, thing) and count_in(self.lists, self.lot, thing[0], thing[1]) > 0

    def __len__(self):
        return len(self.lot)

    def area(self):
        """The area of all pieces."""
        return area_of(self.lists, self.lot)

    def pieces(self):
        """How many pieces there are in all."""
        return pieces_in(self.lists, self.lot)

    def times(self, many):
        """A new Lot with each count times many."""
        return Lot(self.lists, lot_times(self.lists, self.lot, many))

    def split(self, kind, lesser, many):
        """A new Lot with all their shares lesser instead of many pieces of kind."""
        return Lot(self.lists, split_kind(self.lists, self.lot, kind, lesser, many))

    def entries(self):
        """The lot itself."""
        return self.lot
