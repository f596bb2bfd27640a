"""The shares of one sheet."""

from onesheetmore.numbering import share_by_number, share_number
from onesheetmore.shares import share_count, top_shares
from onesheetmore.sharespots import top_over
from onesheetmore.wheels import wheel_lot
from onesheetmore.wholes import useful_height, useful_width, whole_ways


class Shares:
    """The shares of one sheet."""

    def __init__(self, lists, sheet):
        self.lists = lists
        self.sheet = sheet

    def ways(self):
        """The ways in which the sheet is whole."""
        return whole_ways(self.lists, self.sheet)

    def useful(self):
        """The pair of useful width and useful height."""
        return (useful_width(self.lists, self.sheet), useful_height(self.lists, self.sheet))

    def top(self):
        """How many top shares of each kind the sheet has."""
        return top_shares(self.lists, self.sheet)

    def wheel(self):
        """A lot that can be spread on the sheet and does not go in, or None."""
        return wheel_lot(self.lists, self.sheet)

    def count(self, a, b):
        """How many shares (a, b) the sheet has."""
        return share_count(self.lists, self.sheet, a, b)

    def number(self, a, b, column, row):
        """The number of the share."""
        return share_number(self.lists, self.sheet, a, b, column, row)

    def by_number(self, a, b, number):
        """The (column, row) of the share with this number."""
        return share_by_number(self.lists, self.sheet, a, b, number)

    def over(self, a, b, column, row):
        """The (a, b, column, row) of the top share in which the share lies."""
        return top_over(self.lists, self.sheet, a, b, column, row)
