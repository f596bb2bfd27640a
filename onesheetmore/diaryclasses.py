"""A diary with its lists and its stock."""

from onesheetmore.common import need
from onesheetmore.diaries import diary_fault, diary_lot, diary_spread, had_place, needless
from onesheetmore.shares import need_kind


class Diary:
    """A diary that is written entry by entry."""

    def __init__(self, lists, stock):
        self.lists = lists
        self.stock = stock
        self.diary = ()

    def __len__(self):
        return len(self.diary)

    def __eq__(self, other):
        if not isinstance(other, Diary) or self.lists != other.lists or self.stock != other.stock:
            return False
        return self.diary == other.diary

    def note(self, a, b, spot):
        """Write one more entry: a piece refused, or laid at the spot."""
        need_kind(self.lists, a, b)
        longer = (*self.diary, (a, b, spot))
        need("spot", diary_fault(self.lists, self.stock, longer) is None)
        self.diary = longer

    def entries(self):
        """The diary."""
        return self.diary

    def lot_of_it(self):
        """The lot of the pieces laid."""
        return diary_lot(self.lists, self.diary)

    def spread_of_it(self):
        """The pieces laid, in sequence."""
        return diary_spread(self.lists, self.diary)

    def needless(self):
        """The first refused entry whose piece could have been laid with all pieces laid ahead of it, or None."""
        return needless(self.lists, self.stock, self.diary)

    def had_place(self):
        """The refused entries whose piece had a place beside the pieces laid ahead of it."""
        return had_place(self.lists, self.stock, self.diary)
