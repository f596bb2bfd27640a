"""The checker of staircases that refuse."""

from onesheetmore.common import let, need
from onesheetmore.kinds import is_lot
from onesheetmore.readings import reading
from onesheetmore.staircases import staircase_fault


def lets_refusal(lists, stock, lot, thing):
    """The last number of the reading of a staircase that refuses; else InvalidPaper."""
    need("lot", is_lot(lists, lot))
    let(staircase_fault(lists, thing))
    last = reading(lists, stock, lot, thing)[-1]
    let(None if last < 0 else ("last", -1))
    return last
