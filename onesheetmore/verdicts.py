"""Whether a lot goes into a stock, and staircases that say no."""

from onesheetmore.common import need
from onesheetmore.kinds import is_lot
from onesheetmore.readings import refuses
from onesheetmore.rooms import rooms_by_heights
from onesheetmore.staircases import is_staircase, own_sizes, staircases_of
from onesheetmore.wholes import is_whole_stock


def goes_in(lists, stock, lot):
    """True if the lot goes into the stock, else False."""
    need("lot", is_lot(lists, lot))
    for rooms, wants, _ in rooms_by_heights(lists, stock, lot):
        if any([want > room for room, want in zip(rooms, wants)]):
            return False
    return True


def first_refusal(lists, stock, lot, way):
    """The first staircase of that way that refuses, or None."""
    # A lot goes in exactly if no staircase refuses, so none has to be read for it.
    if goes_in(lists, stock, lot):
        return None
    for staircase in staircases_of(lists, way):
        if refuses(lists, stock, lot, staircase):
            return staircase
    return None


def refusal(lists, stock, lot):
    """A staircase by heights that refuses, or None if the lot goes in."""
    need("lot", is_lot(lists, lot))
    return first_refusal(lists, stock, lot, "heights")


def refusal_by_widths(lists, stock, lot):
    """A staircase by widths that refuses, or None if the lot goes in."""
    need("lot", is_lot(lists, lot))
    return first_refusal(lists, stock, lot, "widths")


def tells_no(lists, stock, lot, staircase):
    """True if the staircase refuses and each sheet is whole one way by its own sizes, else False."""
    need("lot", is_lot(lists, lot))
    need("staircase", is_staircase(lists, staircase))
    return is_whole_stock(own_sizes(lists, staircase), stock) and refuses(lists, stock, lot, staircase)


def telling_no(lists, stock, lot):
    """A staircase of either way for which tells_no is True, or None."""
    need("lot", is_lot(lists, lot))
    for way in ("heights", "widths"):
        for staircase in staircases_of(lists, way):
            if tells_no(lists, stock, lot, staircase):
                return staircase
    return None


def verdict(lists, stock, lot):
    """Whether the lot can be spread: "yes" if it goes in, "no" if a staircase tells no, else "open"."""
    need("lot", is_lot(lists, lot))
    if goes_in(lists, stock, lot):
        return "yes"
    return "open" if telling_no(lists, stock, lot) is None else "no"
