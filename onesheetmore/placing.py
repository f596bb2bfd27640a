"""A rule that lays orders for good, for a set of kinds no two of which cross over a third one."""

from onesheetmore.chainboxes import free_in, shares_per, taken_of_boxes
from onesheetmore.common import need, rounded_up
from onesheetmore.forks import fork_of, need_rule, sides_of
from onesheetmore.further import most_more
from onesheetmore.grounds import chains_of, ground_boxes
from onesheetmore.kinds import is_number
from onesheetmore.layingkinds import lot_of_boxes
from onesheetmore.shares import need_kind


class Placer:
    """Lays order after order, and moves nothing."""

    def __init__(self, lists, stock, kinds):
        need_rule(lists, kinds)
        big, flat, tall = chains_of(lists, kinds)
        self.fork = fork_of(lists, kinds)
        ends = () if self.fork is None else (self.fork,)
        self.lists = lists
        self.stock = stock
        self.sides = sides_of(lists, kinds)
        # Flat and tall pieces go on with shares of the fork's kind, each opened for one side alone.
        self.chains = (big, (*flat, *ends), (*tall, *ends))
        self.free = [list(boxes) for boxes in ground_boxes(lists, stock, kinds)]
        self.counts = [0, 0, 0]
        self.boxes = ()

    def need_own_kind(self, a, b):
        """Refuse the first of a and b that makes no kind of the set."""
        need_kind(self.lists, a, b)
        need("b", any([(a, b) in side for side in self.sides]))

    def cut_off(self, side, kind, many):
        """Boxes of so many shares of the kind, taken of the side's free boxes."""
        taken, left = taken_of_boxes(self.lists, self.chains[side], self.free[side], kind, many)
        self.free[side] = left
        return taken

    def open_for(self, side, kind, many):
        """Open as many shares of the fork's kind as the side lacks for so many pieces."""
        lacking = many - free_in(self.lists, self.free[side], kind)
        if lacking > 0:
            opened = rounded_up(lacking, shares_per(self.lists, self.fork, kind))
            self.free[side] = [*self.free[side], *self.cut_off(0, self.fork, opened)]
            self.counts[side] = self.counts[side] + opened

    def take(self, a, b, many):
        """Boxes of so many pieces (a, b), but of at most as many as go in with all that is laid."""
        room = self.room(a, b)
        need("many", is_number(many))
        side = [at for at, kinds in enumerate(self.sides) if (a, b) in kinds][0]
        if side > 0:
            self.open_for(side, (a, b), min(room, many))
        boxes = self.cut_off(side, (a, b), min(room, many))
        self.boxes = (*self.boxes, *boxes)
        return boxes

    def room(self, a, b):
        """The greatest number of further pieces (a, b) that go in with all that is laid."""
        self.need_own_kind(a, b)
        return most_more(self.lists, self.stock, self.taken(), a, b)

    def laid(self):
        """The boxes of all calls of take, one call behind the other."""
        return self.boxes

    def taken(self):
        """The lot of all pieces laid."""
        return lot_of_boxes(self.boxes)

    def opened(self):
        """How many shares of the fork's kind are opened for flat pieces, and how many for tall ones."""
        return (self.counts[1], self.counts[2])
