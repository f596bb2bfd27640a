"""The cuts that saw one sheet with pieces in shares."""

from onesheetmore.boxes import ground_in
from onesheetmore.shares import bands_in, columns_in
from onesheetmore.stockboxes import top_spans
from onesheetmore.wholes import useful_height, useful_width

REST = ("rest",)


def pieces_within(pieces, ground):
    """Those of the pieces (a, b, left, bottom, right, top) that have ground in common with this one."""
    left, bottom, right, top = ground
    return [own for own in pieces if own[2] < right and own[4] > left and own[3] < top and own[5] > bottom]


def cut_between(way, starts, plans):
    """The node that cuts between the parts that begin at these places; the plan of a part alone."""
    if len(plans) == 1:
        return plans[0]
    return (way, tuple(starts[1:]), tuple(plans))


def sawn_share(lists, pieces, kind, left, bottom):
    """The plan of the share of this kind at this place."""
    a, b = kind
    width, height = lists[0][a], lists[1][b]
    own = pieces_within(pieces, (left, bottom, left + width, bottom + height))
    if len(own) == 0:
        return REST
    if own[0][:2] == kind:
        return ("piece", a, b)
    if a not in [piece[0] for piece in own]:
        starts = list(range(0, width, lists[0][a - 1]))
        return cut_between("up", starts, [sawn_share(lists, own, (a - 1, b), left + x, bottom) for x in starts])
    starts = list(range(0, height, lists[1][b - 1]))
    return cut_between("across", starts, [sawn_share(lists, own, (a, b - 1), left, bottom + y) for y in starts])


def top_starts(sizes, side, parts):
    """(index, start) of each top column or band, in sequence of the starts."""
    spans = top_spans(sizes, side, parts)
    return [(i, place * sizes[i]) for i, (first, many) in reversed(spans) for place in range(first, first + many)]


def sawn_column(lists, pieces, a, left, bands):
    """The plan of the top column of width a, as high as useful."""
    height = sum([lists[1][b] for b, _ in bands])
    own = pieces_within(pieces, (left, 0, left + lists[0][a], height))
    if len(own) == 0:
        return REST
    plans = [sawn_share(lists, own, (a, b), left, bottom) for b, bottom in bands]
    return cut_between("across", [bottom for _, bottom in bands], plans)


def sawn_sheet(lists, sheet, boxes):
    """The plan of a sheet in which these boxes, of the stock of this sheet alone, have their pieces."""
    if len(boxes) == 0:
        return REST
    pieces = [(*box[:2], *ground_in(lists, box)[3:]) for box in boxes]
    columns = top_starts(lists[0], sheet[0], columns_in(lists, sheet[0]))
    bands = top_starts(lists[1], sheet[1], bands_in(lists, sheet[1]))
    plans = [sawn_column(lists, pieces, a, left, bands) for a, left in columns]
    plan = cut_between("up", [left for _, left in columns], plans)
    width, height = useful_width(lists, sheet), useful_height(lists, sheet)
    if sheet[0] > width:
        plan = ("up", (width,), (plan, REST))
    if sheet[1] > height:
        plan = ("across", (height,), (plan, REST))
    return plan
