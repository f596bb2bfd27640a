"""What tells layings from other values, and the lot of boxes."""

from onesheetmore.boxes import ground_in, grounds_meet, is_box, shares_of
from onesheetmore.common import merged, need
from onesheetmore.kinds import is_kind, is_number, is_span, is_tuple_of


def is_box_like(lists, thing):
    """True if thing is a tuple of a kind's indexes, a number and three spans, else False."""
    if not is_tuple_of(thing, 6) or not is_kind(lists, thing[:2]) or not is_number(thing[2]):
        return False
    return all([is_span(span) for span in thing[3:]])


def first_meeting(lists, boxes):
    """The first (i, k), k below i, of indexes of boxes that have ground in common, or None."""
    grounds = []
    for i, box in enumerate(boxes):
        ground = ground_in(lists, box)
        for k, other in enumerate(grounds):
            if grounds_meet(ground, other):
                return (i, k)
        grounds.append(ground)
    return None


def laying_fault(lists, stock, thing):
    """The first fault of thing as a laying of the stock, as (word, at), or None if it is one."""
    if not isinstance(thing, tuple):
        return ("laying", -1)
    for i, entry in enumerate(thing):
        if not is_box_like(lists, entry):
            return ("box", i)
        if not is_box(lists, stock, entry):
            return ("inside", i)
    meeting = first_meeting(lists, thing)
    return None if meeting is None else ("overlap", meeting)


def is_laying(lists, stock, thing):
    """True if thing is a laying of the stock, else False."""
    return laying_fault(lists, stock, thing) is None


def need_laying(lists, stock, laying):
    """Refuse a parameter called laying that is no laying of the stock."""
    need("laying", is_laying(lists, stock, laying))


def lot_of_boxes(boxes):
    """The lot of the shares of these boxes."""
    return merged([(box[0], box[1], shares_of(box)) for box in boxes])
