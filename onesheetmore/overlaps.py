"""Where pieces lie, and which of them overlap."""

from onesheetmore.common import need
from onesheetmore.quotients import is_below, raised
from onesheetmore.spreadkinds import is_spread


def piece_ground(lists, piece):
    """The piece's (sort, sheet, left, bottom, right, top), the last four quotients."""
    a, b, sort, sheet, x, y = piece
    return (sort, sheet, x, y, raised(x, lists[0][a]), raised(y, lists[1][b]))


def are_beside(ground, other):
    """True if the heights of two pieces of one sheet have more than a border in common, else False."""
    if ground[:2] != other[:2]:
        return False
    return is_below(ground[3], other[5]) and is_below(other[3], ground[5])


def do_overlap(ground, other):
    """True if the grounds of two pieces overlap, else False."""
    return are_beside(ground, other) and is_below(ground[2], other[4]) and is_below(other[2], ground[4])


def first_overlap(lists, spread):
    """The first pair (i, k), k below i, of indexes of pieces that overlap, or None."""
    need("spread", is_spread(lists, spread))
    grounds = []
    for i, piece in enumerate(spread):
        ground = piece_ground(lists, piece)
        for k, other in enumerate(grounds):
            if do_overlap(ground, other):
                return (i, k)
        grounds.append(ground)
    return None


def overlaps_of(lists, spread):
    """The set of the pairs (i, k), k below i, of indexes of pieces that overlap."""
    need("spread", is_spread(lists, spread))
    grounds = [piece_ground(lists, piece) for piece in spread]
    return tuple([
        (i, k) for i, ground in enumerate(grounds) for k in range(i) if do_overlap(ground, grounds[k])])
