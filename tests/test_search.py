"""Guarantees G1 to G3 and the consequences of stage 8, beside a search through all layings and spreads."""

import unittest
from itertools import product

from onesheetmore.further import leading_sheets, most_more
from onesheetmore.kindsets import first_crossing, holds
from onesheetmore.lots import lot_minus, split_kind
from onesheetmore.readings import refuses
from onesheetmore.rooms import rooms_by_heights, rooms_by_widths
from onesheetmore.staircases import is_staircase, staircases_of
from onesheetmore.verdicts import goes_in, refusal, refusal_by_widths, verdict
from onesheetmore.wheels import wheel_lot
from onesheetmore.wholes import is_whole_for, whole_ways
from samples import ODD, SIDES, TWO, all_kinds

FLAT, LONG, UNEVEN = ((1, 2, 4), (1, 2)), ((1, 2), (1, 2, 4)), ((1, 3), (1, 2))
STOCKS = [
    (TWO, ((3, 3, 1),)), (TWO, ((2, 3, 1),)), (TWO, ((4, 2, 1),)), (TWO, ((5, 3, 1),)), (TWO, ((1, 4, 1),)),
    (TWO, ((3, 2, 2), (1, 3, 1))), (TWO, ((2, 2, 1), (3, 3, 1))), (TWO, ((3, 1, 1), (1, 3, 1), (3, 1, 1))),
    (FLAT, ((4, 2, 1),)), (FLAT, ((5, 3, 1),)), (FLAT, ((3, 2, 1), (4, 1, 1))), (LONG, ((2, 5, 1),)),
    (LONG, ((3, 3, 1), (1, 4, 1))), (UNEVEN, ((4, 3, 1),)), (UNEVEN, ((5, 3, 1),)), (UNEVEN, ((3, 2, 1), (2, 3, 1))),
    (SIDES, ((7, 10, 1),)), (SIDES, ((5, 6, 1), (1, 9, 1))), (ODD, ((4, 4, 1),)), (ODD, ((3, 4, 1), (2, 3, 1)))]


def spots_of(lists, sheet, kind, nested):
    """The cells of each place of the kind: its shares, or all places at multiples of the least sizes."""
    columns, rows = sheet[0] // lists[0][0], sheet[1] // lists[1][0]
    wide, high = lists[0][kind[0]] // lists[0][0], lists[1][kind[1]] // lists[1][0]
    across, up = (wide, high) if nested else (1, 1)
    for x, y in product(range(0, columns - wide + 1, across), range(0, rows - high + 1, up)):
        yield sum([1 << (i * rows + j) for i in range(x, x + wide) for j in range(y, y + high)])


def lots_on(lists, sheet, nested):
    """For all counts of kinds but (0, 0) that can be laid: the most pieces (0, 0) beside them."""
    kinds = all_kinds(lists)[1:]
    found = {(0, (0,) * len(kinds))}
    for at, kind in enumerate(kinds):
        for spot in spots_of(lists, sheet, kind, nested):
            found |= {(cells | spot, counts[:at] + (counts[at] + 1,) + counts[at + 1:])
                      for cells, counts in found if not cells & spot}
    cells_in_all = (sheet[0] // lists[0][0]) * (sheet[1] // lists[1][0])
    most = {}
    for cells, counts in found:
        most[counts] = max(most.get(counts, 0), cells_in_all - cells.bit_count())
    return most


def lots_together(one, other):
    """Both as lots_on tells them, on all sheets together."""
    most = {}
    for (left, few), (right, more) in product(one.items(), other.items()):
        counts = tuple([i + k for i, k in zip(left, right)])
        most[counts] = max(most.get(counts, 0), few + more)
    return most


def lots_of(lists, sheets, nested):
    most = {(0,) * (len(all_kinds(lists)) - 1): 0}
    for sheet in sheets:
        most = lots_together(most, lots_on(lists, sheet, nested))
    return most


def sheets_of(stock):
    return [(width, height) for width, height, many in stock for _ in range(many)]


def as_lot(lists, counts):
    return tuple([(*kind, many) for kind, many in zip(all_kinds(lists), counts) if many > 0])


def counts_beside(lists, most):
    """Counts of all kinds, within what can be laid and somewhat beyond."""
    greatest = [max([counts[i] for counts in most]) for i in range(len(all_kinds(lists)) - 1)]
    for counts in product(*[range(min(many, 5) + 2) for many in greatest]):
        free = most.get(counts, 0)
        for least in sorted({0, 1, free, free + 1}):
            yield (least, *counts)


def is_told(most, counts):
    """True if the lot of these counts can be laid, by what lots_of tells."""
    return counts[1:] in most and counts[0] <= most[counts[1:]]


class SearchTest(unittest.TestCase):
    def test_all_ways_agree(self):
        found = set()
        for lists, stock in STOCKS:
            most = lots_of(lists, sheets_of(stock), True)
            stairs = [one for way in ("heights", "widths") for one in staircases_of(lists, way)]
            for counts in counts_beside(lists, most):
                lot, goes = as_lot(lists, counts), is_told(most, counts)
                found.add(goes)
                self.assertIs(goes_in(lists, stock, lot), goes, (lists, stock, lot))
                for way, function, rooms_by in (("heights", refusal, rooms_by_heights),
                                                ("widths", refusal_by_widths, rooms_by_widths)):
                    staircase = function(lists, stock, lot)
                    self.assertEqual(staircase is None, goes)
                    if staircase is not None:
                        self.assertTrue(is_staircase(lists, staircase) and staircase[0] == way)
                        self.assertTrue(refuses(lists, stock, lot, staircase))
                    fits = [want <= room for rooms, wants, _ in rooms_by(lists, stock, lot)
                            for room, want in zip(rooms, wants)]
                    self.assertEqual(all(fits), goes)
                    refusing = [one for one in stairs if one[0] == way and refuses(lists, stock, lot, one)]
                    self.assertEqual(refusing == [], goes)
        self.assertEqual(found, {True, False})

    def test_verdicts_beside_spreads(self):
        found = set()
        for lists, stock in STOCKS:
            spread = lots_of(lists, sheets_of(stock), False)
            for counts in counts_beside(lists, spread):
                lot, can_be = as_lot(lists, counts), is_told(spread, counts)
                told = verdict(lists, stock, lot)
                found.add((told, can_be))
                self.assertTrue(can_be if told == "yes" else told == "open" or not can_be, (lists, stock, lot))
                whole = all([is_whole_for(lists, sheet, lot) for sheet in sheets_of(stock)])
                crossing = first_crossing(tuple([entry[:2] for entry in lot])) is not None
                self.assertTrue(told != "open" or (crossing and not whole))
                self.assertTrue(not whole or can_be == (told == "yes"))
        self.assertEqual(found, {("yes", True), ("no", False), ("open", True), ("open", False)})

    def test_wheels_can_be_spread(self):
        seen = 0
        for lists, stock in STOCKS:
            for sheet in sheets_of(stock):
                if whole_ways(lists, sheet) == "neither":
                    lot = wheel_lot(lists, sheet)
                    counts = tuple([sum([many for a, b, many in lot if (a, b) == kind]) for kind in all_kinds(lists)])
                    self.assertTrue(is_told(lots_on(lists, sheet, False), counts))
                    self.assertFalse(is_told(lots_on(lists, sheet, True), counts))
                    seen += 1
        self.assertGreater(seen, 3)

    def test_most_more_and_leading_sheets(self):
        for lists, stock in STOCKS:
            sheets = sheets_of(stock)
            most = lots_of(lists, sheets, True)
            starts = [lots_of(lists, sheets[:many], True) for many in range(len(sheets) + 1)]
            for counts in list(counts_beside(lists, most))[::3]:
                lot = as_lot(lists, counts)
                fitting = [many for many, start in enumerate(starts) if is_told(start, counts)]
                self.assertEqual(leading_sheets(lists, stock, lot), fitting[0] if fitting else None)
                if fitting:
                    for at, kind in enumerate(all_kinds(lists)):
                        more = most_more(lists, stock, lot, *kind)
                        grown = [counts[:at] + (counts[at] + many,) + counts[at + 1:] for many in (more, more + 1)]
                        self.assertEqual([is_told(most, one) for one in grown], [True, False])

    def test_what_goes_in_still_does(self):
        for lists, stock in STOCKS:
            most = lots_of(lists, sheets_of(stock), True)
            for counts in [one for one in counts_beside(lists, most) if is_told(most, one)][::4]:
                lot = as_lot(lists, counts)
                self.assertTrue(goes_in(lists, stock + ((2, 1, 1),), lot))
                for a, b, many in lot:
                    self.assertTrue(goes_in(lists, stock, lot_minus(lists, lot, ((a, b, many),))))
                    for lesser in [kind for kind in all_kinds(lists) if holds((a, b), kind) and kind != (a, b)]:
                        self.assertTrue(goes_in(lists, stock, split_kind(lists, lot, (a, b), lesser, 1)))
                        self.assertTrue(goes_in(lists, stock, split_kind(lists, lot, (a, b), lesser, many)))


if __name__ == "__main__":
    unittest.main()
