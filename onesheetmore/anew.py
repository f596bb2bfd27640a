"""Spreads laid anew in shares, and layings as spreads."""

from onesheetmore.errors import NotWhole
from onesheetmore.layingkinds import need_laying
from onesheetmore.layings import laid_boxes
from onesheetmore.spreadchecker import need_spread, pieces_lot
from onesheetmore.wholes import whole_ways


def sheet_laid(lists, stock, spread, sort, sheet):
    """Boxes in this sheet of the lot that the spread has there; the sheet is whole one way."""
    width, height, _ = stock[sort]
    lot = pieces_lot(lists, [piece for piece in spread if piece[2:4] == (sort, sheet)])
    boxes = laid_boxes(lists, ((width, height, 1),), lot)
    return [(a, b, sort, (sheet, 1), columns, rows) for a, b, _, _, columns, rows in boxes]


def laid_anew(lists, stock, spread):
    """A laying that lays in each sheet just the lot that the spread has there."""
    need_spread(lists, stock, spread)
    for piece in spread:
        if whole_ways(lists, stock[piece[2]][:2]) == "neither":
            raise NotWhole(piece[2])
    boxes = []
    # What can be spread on a sheet that is whole one way goes in.
    for sort, sheet in sorted({own[2:4] for own in spread}):
        boxes.extend(sheet_laid(lists, stock, spread, sort, sheet))
    return tuple(boxes)


def spread_of(lists, stock, laying):
    """The pieces of the laying, each at its share's left lower corner."""
    need_laying(lists, stock, laying)
    return tuple([
        (a, b, sort, sheet, (column * lists[0][a], 1), (row * lists[1][b], 1))
        for a, b, sort, sheets, columns, rows in laying
        for sheet in range(sheets[0], sheets[0] + sheets[1])
        for column in range(columns[0], columns[0] + columns[1])
        for row in range(rows[0], rows[0] + rows[1])])
