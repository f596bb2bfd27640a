"""The answer for one lot and one stock."""

from onesheetmore.answers import answer
from onesheetmore.common import need
from onesheetmore.kinds import is_lot, is_stock


class Answer:
    """The answer for one lot and one stock; it never changes."""

    def __init__(self, lists, stock, lot):
        need("lot", is_lot(lists, lot))
        self.lists = lists
        self.stock = stock
        self.lot = lot

    def __eq__(self, other):
        if not isinstance(other, Answer) or self.lists != other.lists:
            return False
        return self.stock == other.stock and self.lot == other.lot

    def what(self):
        """Whether the lot can be spread: "yes", "no" or "open"."""
        return answer(self.lists, self.stock, self.lot)[0]

    def why(self):
        """What tells it."""
        return answer(self.lists, self.stock, self.lot)[1]

    def with_lot(self, lot):
        """A new Answer with another lot."""
        return Answer(self.lists, self.stock, lot)

    def with_stock(self, stock):
        """A new Answer with another stock."""
        need("stock", is_stock(stock))
        return Answer(self.lists, stock, self.lot)
