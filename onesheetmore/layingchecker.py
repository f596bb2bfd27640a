"""The checker of layings."""

from onesheetmore.errors import InvalidPaper
from onesheetmore.layingkinds import laying_fault, lot_of_boxes


def lets_laying(lists, stock, thing):
    """The lot that the laying lays; else InvalidPaper."""
    fault = laying_fault(lists, stock, thing)
    if fault is not None:
        word, at = fault
        raise InvalidPaper(word, at)
    return lot_of_boxes(thing)
