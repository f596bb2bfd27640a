"""Boxes of shares."""

from onesheetmore.common import need
from onesheetmore.kinds import is_index, is_kind, is_number, is_span, is_tuple_of


def is_among(span, number):
    """True if the number is one of the span's, else False."""
    return span[0] <= number < span[0] + span[1]


def is_span_within(thing, many):
    """True if thing is a span of numbers below many, else False."""
    return is_span(thing) and thing[0] + thing[1] <= many


def is_box(lists, stock, thing):
    """True if thing is a box of the stock, else False."""
    if not is_tuple_of(thing, 6) or not is_kind(lists, thing[:2]) or not is_index(thing[2], len(stock)):
        return False
    a, b, sort, sheets, columns, rows = thing
    width, height, many = stock[sort]
    if not is_span_within(sheets, many) or not is_span_within(columns, width // lists[0][a]):
        return False
    return is_span_within(rows, height // lists[1][b])


def shares_of(box):
    """How many shares there are in what is known to be a box."""
    _, _, _, sheets, columns, rows = box
    return sheets[1] * columns[1] * rows[1]


def box_count(lists, stock, box):
    """How many shares the box has."""
    need("box", is_box(lists, stock, box))
    return shares_of(box)


def span_ground(span, size):
    """Where the parts of the span begin and end, each of this size."""
    return (span[0] * size, (span[0] + span[1]) * size)


def ground_in(lists, box):
    """As box_ground, of what is known to be a box."""
    a, b, sort, sheets, columns, rows = box
    left, right = span_ground(columns, lists[0][a])
    bottom, top = span_ground(rows, lists[1][b])
    return (sort, sheets[0], sheets[0] + sheets[1] - 1, left, bottom, right, top)


def grounds_meet(ground, its_ground):
    """True if two grounds as from box_ground have more than a border in common, else False."""
    sort, first, last, left, bottom, right, top = ground
    its_sort, its_first, its_last, its_left, its_bottom, its_right, its_top = its_ground
    if sort != its_sort or first > its_last or its_first > last:
        return False
    return left < its_right and its_left < right and bottom < its_top and its_bottom < top


def box_ground(lists, stock, box):
    """The (sort, first sheet, last sheet, left, bottom, right, top) of the box."""
    need("box", is_box(lists, stock, box))
    return ground_in(lists, box)


def boxes_meet(lists, stock, box, other):
    """True if the two boxes have ground in common in a sheet, else False."""
    need("box", is_box(lists, stock, box))
    need("other", is_box(lists, stock, other))
    return grounds_meet(ground_in(lists, box), ground_in(lists, other))


def span_parts(span, many):
    """The span's first many numbers, the number behind them and the further ones, as spans."""
    start, count = span
    return ((start, many), (start + many, 1), (start + many + 1, count - many - 1))


def boxes_with(start, parts):
    """The boxes that begin with start and go on with the spans of a part, without empty ones."""
    return tuple([(*start, *part) for part in parts if min([many for _, many in part]) > 0])


def parted(box, many):
    """As box_first, of what is known to be a box with so many shares."""
    a, b, sort, sheets, columns, rows = box
    whole_sheets, over = many // (columns[1] * rows[1]), many % (columns[1] * rows[1])
    whole_columns, single = over // rows[1], over % rows[1]
    sheets_ahead, one_sheet, sheets_behind = span_parts(sheets, whole_sheets)
    columns_ahead, one_column, columns_behind = span_parts(columns, whole_columns)
    first = [(sheets_ahead, columns, rows)]
    others = []
    if whole_sheets < sheets[1]:
        first.append((one_sheet, columns_ahead, rows))
        first.append((one_sheet, one_column, (rows[0], single)))
        others.append((one_sheet, one_column, (rows[0] + single, rows[1] - single)))
        others.append((one_sheet, columns_behind, rows))
        others.append((sheets_behind, columns, rows))
    return (boxes_with((a, b, sort), first), boxes_with((a, b, sort), others))


def box_first(lists, stock, box, many):
    """Boxes of the first many shares of the box, and boxes of the others."""
    need("box", is_box(lists, stock, box))
    need("many", is_number(many) and many <= shares_of(box))
    return parted(box, many)


def finer(lists, box, a, b):
    """As box_finer, of what is known to be a box of no narrower and no lower kind."""
    wide, high, sort, sheets, columns, rows = box
    across = lists[0][wide] // lists[0][a]
    up = lists[1][high] // lists[1][b]
    return (a, b, sort, sheets, (columns[0] * across, columns[1] * across), (rows[0] * up, rows[1] * up))


def box_finer(lists, stock, box, a, b):
    """The box of all shares (a, b) within the box."""
    need("box", is_box(lists, stock, box))
    need("a", is_index(a, box[0] + 1))
    need("b", is_index(b, box[1] + 1))
    return finer(lists, box, a, b)
