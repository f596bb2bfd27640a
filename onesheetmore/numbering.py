"""The numbers of the shares of a sheet."""

from onesheetmore.common import need
from onesheetmore.kinds import is_index
from onesheetmore.shares import need_kind, share_count
from onesheetmore.sharespots import need_own


def share_number(lists, sheet, a, b, column, row):
    """The number of the share, column by column, in a column row by row."""
    need_own(lists, sheet, a, b, column, row)
    return column * (sheet[1] // lists[1][b]) + row


def share_by_number(lists, sheet, a, b, number):
    """The (column, row) of the share with this number."""
    need_kind(lists, a, b)
    need("number", is_index(number, share_count(lists, sheet, a, b)))
    rows = sheet[1] // lists[1][b]
    return (number // rows, number % rows)
