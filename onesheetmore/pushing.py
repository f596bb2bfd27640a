"""Pieces pushed left and down."""

from onesheetmore.common import need
from onesheetmore.listforms import turned_lists
from onesheetmore.overlaps import are_beside, first_overlap, piece_ground
from onesheetmore.quotients import is_below
from onesheetmore.spreadkinds import is_spread


def need_apart(lists, spread):
    """Refuse a parameter called spread unless it is a tuple of pieces, no two of which overlap."""
    need("spread", is_spread(lists, spread) and first_overlap(lists, spread) is None)


def order_of(places):
    """The indexes of these quotients by size, those of equal ones as they come."""
    ranks = [len([other for other in places if is_below(other, place)]) for place in places]
    return [k for _, k in sorted([(rank, i) for i, rank in enumerate(ranks)])]


def slid(lists, spread):
    """What is known to be a tuple of pieces apart, pushed left."""
    grounds = [piece_ground(lists, piece) for piece in spread]
    ends = {}
    for i in order_of([piece[4] for piece in spread]):
        ahead = [ends[k] for k in ends if are_beside(grounds[i], grounds[k])]
        ends[i] = max([0, *ahead]) + lists[0][spread[i][0]]
    return tuple([
        (a, b, sort, sheet, (ends[at] - lists[0][a], 1), y) for at, (a, b, sort, sheet, _, y) in enumerate(spread)])


def turned_pieces(spread):
    """The pieces with widths and heights exchanged."""
    return tuple([(b, a, sort, sheet, y, x) for a, b, sort, sheet, x, y in spread])


def pushed_left(lists, spread):
    """The pieces pushed left one by one."""
    need_apart(lists, spread)
    return slid(lists, spread)


def pushed_down(lists, spread):
    """The pieces pushed down one by one."""
    need_apart(lists, spread)
    return turned_pieces(slid(turned_lists(lists), turned_pieces(spread)))


def pushed(lists, spread):
    """The pieces pushed left, then down."""
    return pushed_down(lists, pushed_left(lists, spread))
