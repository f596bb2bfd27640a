"""The boxes of all top shares of a stock."""

from onesheetmore.shares import bands_in, columns_in


def top_spans(sizes, side, parts):
    """(index, span) for each size with top parts; they are the last ones of this size."""
    spans = []
    for i, many in enumerate(parts):
        if many > 0:
            spans.append((i, (side // sizes[i] - many, many)))
    return spans


def whole_boxes(lists, stock):
    """A laying of all top shares of the stock's sheets."""
    boxes = []
    for sort, (width, height, many) in enumerate(stock):
        across = top_spans(lists[0], width, columns_in(lists, width))
        up = top_spans(lists[1], height, bands_in(lists, height))
        for a, columns in across:
            for b, rows in up:
                boxes.append((a, b, sort, (0, many), columns, rows))
    return tuple(boxes)
