"""Laying lots: the tallest pieces first, of these the widest, in the narrowest free ground that holds them."""

from onesheetmore.boxes import finer, parted, shares_of
from onesheetmore.common import need
from onesheetmore.errors import Refused
from onesheetmore.kinds import is_lot
from onesheetmore.listforms import turned_lists, turned_lot, turned_stock
from onesheetmore.stockboxes import whole_boxes
from onesheetmore.verdicts import goes_in, refusal, refusal_by_widths


def broken_share(lists, share, a, many):
    """A box of the first many shares of width a in the single share, and boxes of its rest.

    The rest is told in the widest shares that are left whole, as other pieces may need them.
    """
    widths = lists[0]
    wide, b, sort, sheets, columns, rows = share
    place = columns[0] * (widths[wide] // widths[a])
    first = (a, b, sort, sheets, (place, many), rows)
    place = place + many
    rest = []
    for i in range(a, wide):
        ratio = widths[i + 1] // widths[i]
        lacking = -place % ratio
        if lacking > 0:
            rest.append((i, b, sort, sheets, (place, lacking), rows))
        place = (place + lacking) // ratio
    return (first, rest)


def laid_in_box(lists, box, a, many):
    """Boxes of up to many shares of width a in the free box, and boxes of what stays free of it."""
    per_share = lists[0][box[0]] // lists[0][a]
    whole = min(shares_of(box), many // per_share)
    first, others = parted(box, whole)
    laid = [finer(lists, own, a, own[1]) for own in first]
    missing = many - whole * per_share
    if missing == 0 or len(others) == 0:
        return (laid, others)
    share, behind = parted(others[0], 1)
    part, rest = broken_share(lists, share[0], a, missing)
    return ([*laid, part], [*rest, *behind, *others[1:]])


def laid_in_boxes(lists, free, a, many):
    """Boxes of many shares of width a in the free boxes, and boxes of what stays free."""
    laid, left = [], []
    missing = many
    # Sorted, the narrowest free boxes come first: so the fewest wide ones are broken.
    for box in sorted(free):
        if box[0] < a or missing == 0:
            left.append(box)
            continue
        taken, others = laid_in_box(lists, box, a, missing)
        laid.extend(taken)
        left.extend(others)
        missing = missing - sum([shares_of(part) for part in taken])
    return (laid, left)


def laid_boxes(lists, stock, lot):
    """A laying of a lot that goes in; at each height as much free ground is left as there can be."""
    counts = {entry[:2]: entry[2] for entry in lot}
    tops = whole_boxes(lists, stock)
    laid, free = [], []
    for b in reversed(range(len(lists[1]))):
        free = [finer(lists, box, box[0], b) for box in free] + [box for box in tops if box[1] == b]
        for a in reversed(range(len(lists[0]))):
            taken, free = laid_in_boxes(lists, free, a, counts.get((a, b), 0))
            laid.extend(taken)
    return tuple(laid)


def turned_boxes(boxes):
    """The boxes with widths and heights exchanged."""
    return tuple([(b, a, sort, sheets, rows, columns) for a, b, sort, sheets, columns, rows in boxes])


def lay_by_heights(lists, stock, lot):
    """A laying that lays the lot and leaves at each height the most that can be left."""
    need("lot", is_lot(lists, lot))
    if not goes_in(lists, stock, lot):
        raise Refused(refusal(lists, stock, lot))
    return laid_boxes(lists, stock, lot)


def lay_by_widths(lists, stock, lot):
    """A laying that lays the lot, found with widths and heights exchanged."""
    need("lot", is_lot(lists, lot))
    if not goes_in(lists, stock, lot):
        raise Refused(refusal_by_widths(lists, stock, lot))
    return turned_boxes(laid_boxes(turned_lists(lists), turned_stock(stock), turned_lot(lists, lot)))
