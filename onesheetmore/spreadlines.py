"""Lines through the sheets of spreads, and what stays free on them."""

from onesheetmore.common import need
from onesheetmore.kinds import is_index, is_quotient
from onesheetmore.overlaps import piece_ground
from onesheetmore.pushing import order_of
from onesheetmore.quotients import is_below, minus, raised
from onesheetmore.spreadchecker import need_spread
from onesheetmore.stocks import need_sheet
from onesheetmore.wholes import useful_side


def need_spread_at(lists, stock, spread, sort, sheet):
    """Refuse the first of a spread of the stock, a sort and a sheet that is not as stated."""
    need_spread(lists, stock, spread)
    need_sheet(stock, sort, sheet)


def grounds_on(lists, spread, sort, sheet):
    """(index, ground) of the pieces in this sheet."""
    return [(i, piece_ground(lists, piece)) for i, piece in enumerate(spread) if piece[2:4] == (sort, sheet)]


def met_at(lists, spread, sort, sheet, y):
    """(index, ground) of the pieces in this sheet that a line at y meets, by x."""
    met = [
        (i, ground) for i, ground in grounds_on(lists, spread, sort, sheet)
        if not is_below(y, ground[3]) and is_below(y, ground[5])]
    return [met[k] for k in order_of([ground[2] for _, ground in met])]


def gaps_at(lists, width, taken):
    """How often each width goes into the gaps that grounds, by x, leave of the stretch from 0 to width."""
    starts = [(0, 1), *[ground[4] for ground in taken]]
    ends = [*[ground[2] for ground in taken], (width, 1)]
    gaps = [minus(end, start) for start, end in zip(starts, ends)]
    return tuple([sum([top // (bottom * size) for top, bottom in gaps]) for size in lists[0]])


def line_gaps(lists, stock, spread, sort, sheet, y, b):
    """As gaps_on, of what are known to be as stated."""
    taken = [ground for i, ground in met_at(lists, spread, sort, sheet, y) if spread[i][1] > b]
    return gaps_at(lists, stock[sort][0], taken)


def met_by(lists, stock, spread, sort, sheet, y):
    """The indexes of the pieces in this sheet that a line at y meets, by x."""
    need_spread_at(lists, stock, spread, sort, sheet)
    need("y", is_quotient(y))
    return tuple([i for i, _ in met_at(lists, spread, sort, sheet, y)])


def gaps_on(lists, stock, spread, sort, sheet, y, b):
    """For each width how often it goes into the gaps on the line at y between pieces taller than b."""
    need_spread_at(lists, stock, spread, sort, sheet)
    need("y", is_quotient(y))
    need("b", is_index(b, len(lists[1])))
    return line_gaps(lists, stock, spread, sort, sheet, y, b)


def class_below(rest, many, limit):
    """How many numbers below limit leave rest when divided by many."""
    return (limit + many - 1 - rest) // many


def first_line_from(place, y, low):
    """The least number k such that y + k times low is not below the place."""
    top, bottom = minus(y, place)
    return max(0, -(top // (bottom * low)))


def class_gaps(lists, stock, spread, sort, sheet, y, b, rest):
    """How many lines the class has, and the sums over them of what gaps_on tells."""
    need_spread_at(lists, stock, spread, sort, sheet)
    low, height = lists[1][0], stock[sort][1]
    useful = useful_side(lists[1], height)
    need("y", is_quotient(y) and is_below((height - useful, 1), y) and is_below(y, (low, 1)))
    need("b", is_index(b, len(lists[1])) and lists[1][b] <= height)
    many = lists[1][b] // low
    need("rest", is_index(rest, many))
    ends = [end for _, ground in grounds_on(lists, spread, sort, sheet) for end in (ground[3], ground[5])]
    # Between two of these numbers all lines meet the same pieces: there may be very many lines.
    firsts = sorted(set([0, *[first_line_from(end, y, low) for end in ends], useful // low]))
    lines, sums = 0, [0 for _ in lists[0]]
    for first, limit in zip(firsts[:-1], firsts[1:]):
        alike = class_below(rest, many, limit) - class_below(rest, many, first)
        gaps = line_gaps(lists, stock, spread, sort, sheet, raised(y, first * low), b)
        lines = lines + alike
        sums = [total + alike * gap for total, gap in zip(sums, gaps)]
    return (lines, tuple(sums))
