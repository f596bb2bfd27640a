"""The checker of diaries."""

from onesheetmore.common import let
from onesheetmore.diaries import diary_fault, diary_lot, refused_entries


def lets_diary(lists, stock, thing):
    """The lot of the pieces laid, and how many entries are refused; else InvalidPaper."""
    let(diary_fault(lists, stock, thing))
    return (diary_lot(lists, thing), len(refused_entries(thing)))
