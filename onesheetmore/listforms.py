"""Lists, lots, stocks and sets of kinds in other forms."""

from onesheetmore.common import need
from onesheetmore.kinds import is_count, is_kinds, is_lot


def turned_lists(lists):
    """The lists with widths and heights exchanged."""
    return (lists[1], lists[0])


def turned_lot(lists, lot):
    """The lot with widths and heights exchanged, one of the turned lists."""
    need("lot", is_lot(lists, lot))
    return tuple(sorted([(b, a, many) for a, b, many in lot]))


def turned_stock(stock):
    """The stock with widths and heights exchanged, in the same sequence."""
    return tuple([(height, width, many) for width, height, many in stock])


def turned_kinds(lists, kinds):
    """The set of kinds with widths and heights exchanged, one of the turned lists."""
    need("kinds", is_kinds(lists, kinds))
    return tuple(sorted([(b, a) for a, b in kinds]))


def cut_lists(lists, wide, high):
    """The lists of the first wide widths and the first high heights."""
    need("wide", is_count(wide) and wide <= len(lists[0]))
    need("high", is_count(high) and high <= len(lists[1]))
    return (lists[0][:wide], lists[1][:high])


def cut_to_lot(lists, lot):
    """The lists without widths and heights above those of the lot."""
    need("lot", is_lot(lists, lot))
    widest = max([a for a, _, _ in lot], default=0)
    tallest = max([b for _, b, _ in lot], default=0)
    return cut_lists(lists, widest + 1, tallest + 1)


def used_lists(lists, lot):
    """The lists of the lot's sizes alone, and the lot by the indexes of these."""
    need("lot", is_lot(lists, lot))
    across = sorted({a for a, _, _ in lot}) or [0]
    up = sorted({b for _, b, _ in lot}) or [0]
    new_a = {a: i for i, a in enumerate(across)}
    new_b = {b: i for i, b in enumerate(up)}
    widths = tuple([lists[0][a] for a in across])
    heights = tuple([lists[1][b] for b in up])
    return ((widths, heights), tuple([(new_a[a], new_b[b], many) for a, b, many in lot]))
