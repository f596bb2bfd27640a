"""The lines of layings."""

from onesheetmore.layingkinds import need_laying


def span_word(span):
    """How a line writes the span."""
    return f"{span[0]}*{span[1]}"


def box_word(box):
    """How a line writes the box."""
    a, b, sort, sheets, columns, rows = box
    return f"{a},{b}:{sort}:{span_word(sheets)}:{span_word(columns)}:{span_word(rows)}"


def laying_line(lists, stock, laying):
    """The line of the laying."""
    need_laying(lists, stock, laying)
    return " ".join([box_word(box) for box in laying])
