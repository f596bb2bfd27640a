"""The checker of lists."""

from onesheetmore.common import let
from onesheetmore.kinds import lists_fault


def lets_lists(thing):
    """How many widths and how many heights the lists have; else InvalidPaper."""
    let(lists_fault(thing))
    return (len(thing[0]), len(thing[1]))
