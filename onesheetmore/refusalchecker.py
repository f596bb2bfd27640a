"""The checker of staircases that refuse."""

from onesheetmore.common import need
from onesheetmore.errors import InvalidPaper
from onesheetmore.kinds import is_lot
from onesheetmore.readings import reading
from onesheetmore.staircases import staircase_fault


def lets_refusal(lists, stock, lot, thing):
    """The last number of the reading of a staircase that refuses; else InvalidPaper."""
    need("lot", is_lot(lists, lot))
    fault = staircase_fault(lists, thing)
    if fault is not None:
        word, at = fault
        raise InvalidPaper(word, at)
    last = reading(lists, stock, lot, thing)[-1]
    if last >= 0:
        raise InvalidPaper("last", -1)
    return last
