"""What can be said of one lot and one stock."""

from onesheetmore.common import need
from onesheetmore.further import most_more
from onesheetmore.kinds import is_lot, is_stock
from onesheetmore.rooms import rooms_by_heights, rooms_by_widths
from onesheetmore.verdicts import goes_in, refusal, verdict


class Rooms:
    """What can be said of one lot and one stock."""

    def __init__(self, lists, stock, lot):
        need("lot", is_lot(lists, lot))
        self.lists = lists
        self.stock = stock
        self.lot = lot

    def by_heights(self):
        """Rooms, wants and what is left by heights."""
        return rooms_by_heights(self.lists, self.stock, self.lot)

    def by_widths(self):
        """Rooms, wants and what is left by widths."""
        return rooms_by_widths(self.lists, self.stock, self.lot)

    def goes(self):
        """True if the lot goes into the stock, else False."""
        return goes_in(self.lists, self.stock, self.lot)

    def refusal(self):
        """A staircase by heights that refuses, or None."""
        return refusal(self.lists, self.stock, self.lot)

    def verdict(self):
        """Whether the lot can be spread: "yes", "no" or "open"."""
        return verdict(self.lists, self.stock, self.lot)

    def more(self, a, b):
        """The greatest number of pieces (a, b) that go in together with the lot."""
        return most_more(self.lists, self.stock, self.lot, a, b)

    def with_lot(self, lot):
        """A new Rooms with another lot."""
        return Rooms(self.lists, self.stock, lot)

    def with_stock(self, stock):
        """A new Rooms with another stock."""
        need("stock", is_stock(stock))
        return Rooms(self.lists, stock, self.lot)
