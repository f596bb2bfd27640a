"""The checker of what lines refuse."""

from onesheetmore.common import let, need
from onesheetmore.kinds import is_index, is_lot, is_number, is_tuple_of
from onesheetmore.linerooms import line_rooms
from onesheetmore.staircases import is_way, sides_by


def line_paper_fault(lists, thing):
    """The word of the paper's first fault of form, or None if it has none."""
    if not is_tuple_of(thing, 3):
        return "paper"
    way, index, step = thing
    if not is_way(way):
        return "way"
    down, across = sides_by(lists, way)
    if not is_index(index, len(down)):
        return "index"
    return None if is_index(step, len(across)) else "step"


def lets_line_refusal(lists, sheet, lot, many, thing):
    """Wants less low for a triple (way, index, step) where they exceed it; else InvalidPaper."""
    need("lot", is_lot(lists, lot))
    need("many", is_number(many))
    word = line_paper_fault(lists, thing)
    let(None if word is None else (word, -1))
    way, index, step = thing
    low, _, wants = line_rooms(lists, sheet, lot, many, way)[index]
    let(None if wants[step] > low[step] else ("last", -1))
    return wants[step] - low[step]
