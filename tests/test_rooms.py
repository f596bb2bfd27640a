"""Points 8 and 34: rooms, wants and what is left."""

import unittest
from fractions import Fraction
from math import floor

from onesheetmore.listforms import turned_lists, turned_lot, turned_stock
from onesheetmore.rooms import rooms_by_heights, rooms_by_widths
from samples import ODD, ONE_SIZE, ROUND, SIDES, SIX, STOCK, THIRTY, THREE, TWELVE, TWO, check_calls, check_refusals
import samples

CASES = [
    (TWO, STOCK, ROUND), (TWO, (), ()), (TWO, (), ROUND), (TWO, STOCK, ()), (TWO, ((3, 3, 1),), ROUND),
    (THREE, STOCK, ((0, 2, 1), (1, 1, 3), (2, 0, 2))), (THREE, ((7, 7, 2), (1, 9, 1)), ((2, 2, 9), )),
    (ODD, ((5, 5, 3), (5, 5, 1)), ((0, 0, 40), (0, 1, 7), (1, 0, 8), (1, 1, 2))), (ONE_SIZE, ((2, 2, 5),), ((0, 0, 1),)),
    (SIDES, ((7, 11, 2), (1, 1, 1)), ((0, 1, 2), (1, 0, 3))), (SIX, ((TWELVE, TWELVE, THIRTY),), ((5, 5, THIRTY),)),
    (((1, 2), (3, 6, 12)), ((5, 13, 2),), ((0, 0, 2), (0, 2, 2), (1, 1, 4)))]


class Definition:
    """The sums of point 8 by heights, with fractions."""

    def __init__(self, lists, stock, lot):
        self.widths, self.heights = lists
        self.stock, self.lot = stock, lot

    def ratio(self, k, i):
        return Fraction(self.widths[k], self.widths[i])

    def wants(self, b, i):
        return sum([many * self.ratio(a, i) for a, high, many in self.lot if high == b and a >= i])

    def rooms(self, b, i):
        last = b == len(self.heights) - 1
        total = 0
        for width, height, many in self.stock:
            rest = height if last else height % self.heights[b + 1]
            total += many * (rest // self.heights[b]) * (width // self.widths[i])
        return total if last else total + Fraction(self.heights[b + 1], self.heights[b]) * self.left(b + 1, i)

    def left(self, b, i):
        return min([floor((self.rooms(b, k) - self.wants(b, k)) * self.ratio(k, i)) for k in range(i + 1)])

    def rows(self):
        return tuple([
            tuple([tuple([sum_of(b, i) for i in range(len(self.widths))]) for sum_of in (self.rooms, self.wants, self.left)])
            for b in range(len(self.heights))])


class RoomsTest(unittest.TestCase):
    def test_examples(self):
        self.assertEqual(rooms_by_heights(TWO, STOCK, ROUND),
                         (((34, 16), (4, 2), (30, 14)), ((19, 9), (2, 0), (17, 8))))
        self.assertEqual(rooms_by_widths(TWO, STOCK, ROUND),
                         (((34, 17), (4, 2), (30, 15)), ((18, 9), (2, 0), (16, 8))))
        self.assertEqual(rooms_by_heights(TWO, (), ((1, 1, 1),)), (((-4, -2), (0, 0), (-4, -2)), ((0, 0), (2, 1), (-2, -1))))

    def test_against_the_definition(self):
        for lists, stock, lot in CASES:
            if lists != SIX:
                rows = rooms_by_heights(lists, stock, lot)
                self.assertEqual(rows, Definition(lists, stock, lot).rows())
                self.assertTrue(all([type(number) is int for row in rows for part in row for number in part]))
            turned = (turned_lists(lists), turned_stock(stock), turned_lot(lists, lot))
            self.assertEqual(rooms_by_widths(lists, stock, lot), rooms_by_heights(*turned))
            self.assertEqual(rooms_by_heights(lists, stock, lot), rooms_by_widths(*turned))

    def test_rounded_down_below_nought(self):
        rows = rooms_by_heights(((1, 2), (1,)), (), ((0, 0, 1),))
        self.assertEqual(rows, (((0, 0), (1, 0), (-1, -1)),))
        rows = rooms_by_heights(((1, 4), (1,)), ((3, 1, 1),), ((0, 0, 8),))
        self.assertEqual(rows, (((3, 0), (8, 0), (-5, -2)),))

    def test_sizes_above_every_sheet(self):
        rows = rooms_by_heights(SIX, ((3, 3, 2),), ())
        self.assertEqual([len(rows), len(rows[5][0])], [6, 6])
        self.assertEqual(rows[0][0], (6, 2, 0, 0, 0, 0))
        self.assertEqual(rows[5], ((0,) * 6, (0,) * 6, (0,) * 6))

    def test_large(self):
        (rooms, wants, left), = rooms_by_heights(((1, 2), (1,)), ((TWELVE, TWELVE, THIRTY),), ((1, 0, THIRTY),))
        self.assertEqual(rooms, (TWELVE * TWELVE * THIRTY, TWELVE * (TWELVE // 2) * THIRTY))
        self.assertEqual(wants, (2 * THIRTY, THIRTY))
        self.assertEqual(left, (rooms[0] - wants[0], rooms[1] - wants[1]))

    def test_alike_sorts_in_any_sequence(self):
        stock = ((3, 2, 1), (4, 4, 2), (3, 2, 3))
        for function in (rooms_by_heights, rooms_by_widths):
            first = function(TWO, stock, ROUND)
            self.assertEqual(function(TWO, stock[::-1], ROUND), first)
            self.assertEqual(function(TWO, ((3, 2, 4), (4, 4, 2)), ROUND), first)

    def test_refusals(self):
        for function in (rooms_by_heights, rooms_by_widths):
            for lists in (TWO, THREE):
                given = {"lists": lists, "stock": STOCK, "lot": ROUND}
                check_refusals(self, function, given, {"lot": samples.is_lot(lists)})
                check_calls(self, function, given)


if __name__ == "__main__":
    unittest.main()
