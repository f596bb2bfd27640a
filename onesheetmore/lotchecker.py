"""The checker of lots."""

from onesheetmore.errors import InvalidPaper
from onesheetmore.kinds import lot_fault


def lets_lot(lists, thing):
    """How many pieces the lot has in all; else InvalidPaper."""
    fault = lot_fault(lists, thing)
    if fault is not None:
        word, at = fault
        raise InvalidPaper(word, at)
    return sum([many for _, _, many in thing])
