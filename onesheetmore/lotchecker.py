"""The checker of lots."""

from onesheetmore.common import let
from onesheetmore.kinds import lot_fault


def lets_lot(lists, thing):
    """How many pieces the lot has in all; else InvalidPaper."""
    let(lot_fault(lists, thing))
    return sum([many for _, _, many in thing])
