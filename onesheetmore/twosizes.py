"""What can be spread on one sheet by lists of two widths and two heights."""

from onesheetmore.anew import spread_of
from onesheetmore.common import need, rounded_up
from onesheetmore.kinds import is_lot
from onesheetmore.layings import lay_by_heights
from onesheetmore.lots import area_of, count_in
from onesheetmore.stocks import stock_of
from onesheetmore.verdicts import goes_in
from onesheetmore.wheels import wheel_side
from onesheetmore.wholes import useful_height, useful_width, whole_ways


def need_two_sizes(lists, lot):
    """Refuse lists without two widths and two heights, and what is no lot of them."""
    need("lists", len(lists[0]) == 2 and len(lists[1]) == 2)
    need("lot", is_lot(lists, lot))


def sides_in_smallest(lists, sheet):
    """(u, columns, s) and (v, rows, t) of a sheet that is whole neither way."""
    return (wheel_side(lists[0], sheet[0])[1:], wheel_side(lists[1], sheet[1])[1:])


def two_counts(lists, sheet, lot):
    """(all, x, y, flat pieces that have room); None if the sheet is whole one way."""
    need_two_sizes(lists, lot)
    if whole_ways(lists, sheet) != "neither":
        return None
    (u, columns, s), (v, rows, t) = sides_in_smallest(lists, sheet)
    tall, great = count_in(lists, lot, 0, 1), count_in(lists, lot, 1, 1)
    shares = rows * columns
    x = max(0, rounded_up(tall - rows * s, u))
    y = max(0, rounded_up(tall - (rows + 1) * s, u))
    return (shares, x, y, v * (shares - great - x) + t * columns + t * (x - y))


def two_goes(lists, sheet, lot):
    """True if the lot can be spread on this one sheet, else False."""
    need_two_sizes(lists, lot)
    counts = two_counts(lists, sheet, lot)
    if counts is None:
        return goes_in(lists, stock_of(sheet, 1), lot)
    shares, x, _, flat = counts
    if count_in(lists, lot, 1, 1) + x > shares or count_in(lists, lot, 1, 0) > flat:
        return False
    return area_of(lists, lot) <= useful_width(lists, sheet) * useful_height(lists, sheet)


def strip_spots(lists, sheet):
    """Left lower corners for tall and for flat pieces: on the strips beside the great shares and round the last one.

    All corners are measured in smallest shares.
    """
    (u, columns, s), (v, rows, t) = sides_in_smallest(lists, sheet)
    last_x, last_y = (columns - 1) * u, (rows - 1) * v
    tall = [(columns * u + i, row * v) for row in range(rows) for i in range(s)]
    flat = [(column * u, rows * v + i) for column in range(columns - 1) for i in range(t)]
    # Round the last great share, the second arm of the tall pieces moves those of the flat ones aside.
    tall.extend([(last_x + i, last_y + t) for i in range(s)])
    flat.extend([(last_x, last_y + i) for i in range(t)])
    flat.extend([(last_x + s, last_y + v + i) for i in range(t)])
    return (tall, flat)


def great_spots(lists, sheet):
    """Left lower corners of all great shares but the last one, measured in smallest shares."""
    (u, columns, _), (v, rows, _) = sides_in_smallest(lists, sheet)
    return [(column * u, row * v) for column in range(columns) for row in range(rows)][:-1]


def round_spots(lists, sheet, lot):
    """(kind, corner) for the pieces of the lot but those of the smallest kind: some go round the last great share."""
    (u, _, _), (v, _, _) = sides_in_smallest(lists, sheet)
    _, x, _, _ = two_counts(lists, sheet, lot)
    great = count_in(lists, lot, 1, 1)
    tall, flat = strip_spots(lists, sheet)
    shares = great_spots(lists, sheet)
    tall.extend([(left + i, bottom) for left, bottom in shares[great:great + x - 1] for i in range(u)])
    flat.extend([(left, bottom + i) for left, bottom in shares[great + x - 1:] for i in range(v)])
    return (
        [((1, 1), spot) for spot in shares[:great]]
        + [((0, 1), spot) for spot in tall[:count_in(lists, lot, 0, 1)]]
        + [((1, 0), spot) for spot in flat[:count_in(lists, lot, 1, 0)]])


def free_spots(lists, sheet, spots):
    """The smallest shares, as (column, row), that these pieces leave."""
    taken = {
        (left + i, bottom + k): True for (a, b), (left, bottom) in spots
        for i in range(lists[0][a] // lists[0][0]) for k in range(lists[1][b] // lists[1][0])}
    columns, rows = sheet[0] // lists[0][0], sheet[1] // lists[1][0]
    return [(column, row) for column in range(columns) for row in range(rows) if (column, row) not in taken]


def two_spread(lists, sheet, lot):
    """A spread of just the lot on this one sheet, or None."""
    if not two_goes(lists, sheet, lot):
        return None
    stock = stock_of(sheet, 1)
    if goes_in(lists, stock, lot):
        return spread_of(lists, stock, lay_by_heights(lists, stock, lot))
    spots = round_spots(lists, sheet, lot)
    free = free_spots(lists, sheet, spots)[:count_in(lists, lot, 0, 0)]
    return tuple([
        (a, b, 0, 0, (left * lists[0][0], 1), (bottom * lists[1][0], 1))
        for (a, b), (left, bottom) in [*spots, *[((0, 0), spot) for spot in free]]])


def wheel_helps(lists, sheet, lot):
    """True if the lot can be spread on this one sheet, but does not go in, else False."""
    return two_goes(lists, sheet, lot) and not goes_in(lists, stock_of(sheet, 1), lot)
