"""The checker of lists."""

from onesheetmore.errors import InvalidPaper
from onesheetmore.kinds import lists_fault


def lets_lists(thing):
    """How many widths and how many heights the lists have; else InvalidPaper."""
    fault = lists_fault(thing)
    if fault is not None:
        word, at = fault
        raise InvalidPaper(word, at)
    return (len(thing[0]), len(thing[1]))
