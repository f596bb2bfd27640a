"""Layings in other forms."""

from onesheetmore.boxes import is_among
from onesheetmore.common import need
from onesheetmore.kinds import is_index
from onesheetmore.layingkinds import need_laying
from onesheetmore.layings import turned_boxes


def turned_laying(lists, stock, laying):
    """The laying with widths and heights exchanged, one of the turned stock by the turned lists."""
    need_laying(lists, stock, laying)
    return turned_boxes(laying)


def exchanged_spans(span, one, other):
    """The numbers of the span, as spans, with one and other exchanged."""
    if is_among(span, one) == is_among(span, other):
        return [span]
    gone, come = (one, other) if is_among(span, one) else (other, one)
    start, end = span[0], span[0] + span[1]
    parts = [(start, gone - start), (gone + 1, end - gone - 1), (come, 1)]
    return [part for part in parts if part[1] > 0]


def exchanged(lists, stock, laying, sort, one, other):
    """The laying with the pieces of two sheets of the sort exchanged."""
    need_laying(lists, stock, laying)
    need("sort", is_index(sort, len(stock)))
    need("one", is_index(one, stock[sort][2]))
    need("other", is_index(other, stock[sort][2]))
    boxes = []
    for a, b, its_sort, sheets, columns, rows in laying:
        spans = exchanged_spans(sheets, one, other) if its_sort == sort else [sheets]
        boxes.extend([(a, b, its_sort, span, columns, rows) for span in spans])
    return tuple(boxes)
