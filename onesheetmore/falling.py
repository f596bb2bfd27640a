"""A rule that lays orders of all kinds for good, as long as pieces never get taller, or never wider."""

from onesheetmore.boxes import finer
from onesheetmore.common import need
from onesheetmore.further import most_more
from onesheetmore.kinds import is_index, is_number
from onesheetmore.layingkinds import lot_of_boxes
from onesheetmore.layings import laid_in_boxes, turned_boxes
from onesheetmore.listforms import turned_lists, turned_stock
from onesheetmore.staircases import is_way
from onesheetmore.stockboxes import whole_boxes


class Falling:
    """Lays order after order, by heights pieces that never get taller, by widths pieces that never get wider."""

    def __init__(self, lists, stock, way):
        need("way", is_way(way))
        self.lists = lists
        self.stock = stock
        self.way = way
        # By widths all is laid with widths and heights exchanged. The level is the height index of the pieces
        # laid last: the free boxes are in shares so high, and lower top bands are not among them yet.
        self.own_lists = lists if way == "heights" else turned_lists(lists)
        self.tops = whole_boxes(self.own_lists, stock if way == "heights" else turned_stock(stock))
        self.level = len(self.own_lists[1])
        self.free = []
        self.boxes = ()

    def need_own_kind(self, a, b):
        """Refuse the first of a and b that is no index, or above that of a piece laid where it must not be."""
        wide, high = len(self.lists[0]), len(self.lists[1])
        if self.way == "heights":
            high = min(high, self.level + 1)
        else:
            wide = min(wide, self.level + 1)
        need("a", is_index(a, wide))
        need("b", is_index(b, high))

    def free_at(self, b):
        """The free boxes in shares as high as height b, with the top bands down to there."""
        fallen = [finer(self.own_lists, box, box[0], b) for box in self.free]
        return fallen + [finer(self.own_lists, box, box[0], b) for box in self.tops if b <= box[1] < self.level]

    def take(self, a, b, many):
        """Boxes of so many pieces (a, b), but of at most as many as go in with all that is laid."""
        room = self.room(a, b)
        need("many", is_number(many))
        if min(room, many) == 0:
            return ()
        wide, high = (a, b) if self.way == "heights" else (b, a)
        laid, left = laid_in_boxes(self.own_lists, self.free_at(high), wide, min(room, many))
        self.free = left
        self.level = high
        boxes = tuple(laid) if self.way == "heights" else turned_boxes(laid)
        self.boxes = (*self.boxes, *boxes)
        return boxes

    def room(self, a, b):
        """The greatest number of further pieces (a, b) that go in with all that is laid."""
        self.need_own_kind(a, b)
        return most_more(self.lists, self.stock, self.taken(), a, b)

    def laid(self):
        """The boxes of all calls of take, one call behind the other."""
        return self.boxes

    def taken(self):
        """The lot of all pieces laid."""
        return lot_of_boxes(self.boxes)
