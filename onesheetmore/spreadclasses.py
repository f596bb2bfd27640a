"""A spread with its lists and its stock."""

from onesheetmore.anew import laid_anew
from onesheetmore.common import need
from onesheetmore.errors import Unfit
from onesheetmore.kinds import is_index
from onesheetmore.openings import free_place
from onesheetmore.pushing import pushed
from onesheetmore.spreadchecker import is_spread_of, pieces_lot
from onesheetmore.spreadkinds import is_place


class Spread:
    """A spread of the stock; it never changes."""

    def __init__(self, lists, stock, pieces):
        need("pieces", is_spread_of(lists, stock, pieces))
        self.lists = lists
        self.stock = stock
        self.spread = pieces

    def __len__(self):
        return len(self.spread)

    def __eq__(self, other):
        if not isinstance(other, Spread) or self.lists != other.lists or self.stock != other.stock:
            return False
        return sorted(self.spread) == sorted(other.spread)

    def entries(self):
        """The tuple of pieces."""
        return self.spread

    def lot_of_it(self):
        """The lot of the pieces."""
        return pieces_lot(self.lists, self.spread)

    def pushed(self):
        """A new Spread with the pieces pushed left, then down."""
        return Spread(self.lists, self.stock, pushed(self.lists, self.spread))

    def anew(self):
        """A laying that lays in each sheet just the lot that the spread has there."""
        return laid_anew(self.lists, self.stock, self.spread)

    def room_for(self, a, b):
        """A (sort, sheet, x, y) where a piece (a, b) has a place beside the pieces, or None."""
        return free_place(self.lists, self.stock, self.spread, a, b)

    def shifted(self, number, x, y):
        """A new Spread with the piece of this index at (x, y) of the same sheet."""
        need("number", is_index(number, len(self.spread)))
        need("x", is_place(x))
        need("y", is_place(y))
        a, b, sort, sheet, _, _ = self.spread[number]
        pieces = (*self.spread[:number], (a, b, sort, sheet, x, y), *self.spread[number + 1:])
        if not is_spread_of(self.lists, self.stock, pieces):
            raise Unfit((a, b))
        return Spread(self.lists, self.stock, pieces)
