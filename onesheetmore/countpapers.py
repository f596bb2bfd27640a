"""Papers that show what the fewest sheets are."""

from onesheetmore.fewest import fewest
from onesheetmore.layings import lay_by_heights
from onesheetmore.stocks import stock_of
from onesheetmore.verdicts import refusal


def fewest_paper(lists, lot, sheet):
    """(number, laying, staircase): the fewest sheets, how the lot lies on them, and why no fewer do."""
    number = fewest(lists, lot, sheet)
    if number == 0:
        return (0, (), None)
    laying = lay_by_heights(lists, stock_of(sheet, number), lot)
    return (number, laying, refusal(lists, stock_of(sheet, number - 1), lot))
