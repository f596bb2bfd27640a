"""Places and stretches that a spread leaves free."""

from onesheetmore.overlaps import do_overlap, piece_ground
from onesheetmore.pushing import order_of
from onesheetmore.quotients import is_below
from onesheetmore.shares import need_kind
from onesheetmore.spreadchecker import is_inside, need_spread
from onesheetmore.spreadlines import grounds_on, need_spread_at


def fits_beside(lists, stock, grounds, piece):
    """True if the piece is within its sheet and overlaps none of these, else False."""
    ground = piece_ground(lists, piece)
    return is_inside(lists, stock, piece) and not any([do_overlap(ground, other) for other in grounds])


def place_beside(lists, stock, spread, a, b, sort, sheet):
    """The (sort, sheet, x, y) of a place for a piece (a, b) in this sheet, or None."""
    grounds = [ground for _, ground in grounds_on(lists, spread, sort, sheet)]
    # A piece that has a place can be pushed left and down to where two borders hold it.
    for x in [(0, 1), *[ground[4] for ground in grounds]]:
        for y in [(0, 1), *[ground[5] for ground in grounds]]:
            if fits_beside(lists, stock, grounds, (a, b, sort, sheet, x, y)):
                return (sort, sheet, x, y)
    return None


def free_place(lists, stock, spread, a, b):
    """A (sort, sheet, x, y) where a piece (a, b) has a place beside the spread, or None."""
    need_spread(lists, stock, spread)
    need_kind(lists, a, b)
    for sort, (_, _, many) in enumerate(stock):
        used = sorted({piece[3] for piece in spread if piece[2] == sort})
        empty = [number for number in range(min(many, len(used) + 1)) if number not in used]
        # One sheet without pieces tells for all of them: there may be very many.
        for sheet in [*empty[:1], *used]:
            place = place_beside(lists, stock, spread, a, b, sort, sheet)
            if place is not None:
                return place
    return None


def clear_stretches(side, taken):
    """The greatest stretches of 0 to side outside of these pairs (from, to)."""
    clear = []
    end = (0, 1)
    for i in order_of([stretch[0] for stretch in taken]):
        start, own_end = taken[i]
        if is_below(end, start):
            clear.append((end, start))
        if is_below(end, own_end):
            end = own_end
    if is_below(end, (side, 1)):
        clear.append((end, (side, 1)))
    return tuple(clear)


def clear_across(lists, stock, spread, sort, sheet):
    """The greatest stretches of the sheet's height that no piece takes."""
    need_spread_at(lists, stock, spread, sort, sheet)
    grounds = [ground for _, ground in grounds_on(lists, spread, sort, sheet)]
    return clear_stretches(stock[sort][1], [(ground[3], ground[5]) for ground in grounds])


def clear_up(lists, stock, spread, sort, sheet):
    """The greatest stretches of the sheet's width that no piece takes."""
    need_spread_at(lists, stock, spread, sort, sheet)
    grounds = [ground for _, ground in grounds_on(lists, spread, sort, sheet)]
    return clear_stretches(stock[sort][0], [(ground[2], ground[4]) for ground in grounds])
