"""The copies of one lot on one sheet of blocks."""

from onesheetmore.areas import area_sheets
from onesheetmore.common import need
from onesheetmore.copies import copies_for, copies_period, most_copies, need_copied
from onesheetmore.kinds import is_number
from onesheetmore.lots import lot_times


class Copies:
    """The copies of one lot on one sheet of blocks."""

    def __init__(self, lists, lot, sheet):
        need_copied(lists, lot, sheet)
        self.lists = lists
        self.lot = lot
        self.sheet = sheet

    def sheets(self, t):
        """The fewest sheets of t copies."""
        need("t", is_number(t))
        return copies_for(self.lists, self.lot, self.sheet, t)

    def area_sheets(self, t):
        """The area of t copies over the useful area of the sheet, rounded up."""
        need("t", is_number(t))
        return area_sheets(self.lists, lot_times(self.lists, self.lot, t), self.sheet)

    def one_more(self, t):
        """True if t copies need one sheet more than their area asks for, else False."""
        return self.sheets(t) == self.area_sheets(t) + 1

    def period(self):
        """How many smallest shares a block has."""
        return copies_period(self.lists)

    def most(self, sheets):
        """The most copies that go into so many sheets."""
        return most_copies(self.lists, self.lot, self.sheet, sheets)
