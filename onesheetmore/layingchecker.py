"""The checker of layings."""

from onesheetmore.common import let
from onesheetmore.layingkinds import laying_fault, lot_of_boxes


def lets_laying(lists, stock, thing):
    """The lot that the laying lays; else InvalidPaper."""
    let(laying_fault(lists, stock, thing))
    return lot_of_boxes(thing)
