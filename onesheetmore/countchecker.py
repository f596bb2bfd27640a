"""The checker of papers that show what the fewest sheets are."""

from onesheetmore.errors import InvalidPaper
from onesheetmore.fewest import need_whole_sheet
from onesheetmore.kinds import is_number, is_tuple_of
from onesheetmore.layingkinds import is_laying, lot_of_boxes
from onesheetmore.readings import refuses
from onesheetmore.staircases import is_staircase
from onesheetmore.stocks import stock_of


def paper_fault(lists, lot, sheet, thing):
    """The word of the paper's first fault, or None if it has none."""
    if not is_tuple_of(thing, 3):
        return "paper"
    number, laying, staircase = thing
    if not is_number(number):
        return "number"
    if not is_laying(lists, stock_of(sheet, number), laying):
        return "laying"
    if lot_of_boxes(laying) != lot:
        return "lot"
    if number == 0:
        return None if staircase is None else "staircase"
    if not is_staircase(lists, staircase):
        return "staircase"
    return None if refuses(lists, stock_of(sheet, number - 1), lot, staircase) else "refuses"


def lets_fewest(lists, lot, sheet, thing):
    """The number of a paper that shows that the fewest sheets are so many; else InvalidPaper."""
    need_whole_sheet(lists, lot, sheet)
    word = paper_fault(lists, lot, sheet, thing)
    if word is not None:
        raise InvalidPaper(word, -1)
    return thing[0]
