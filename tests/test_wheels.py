"""Points 31 and 32: lots that go round a hole; the shares of one sheet."""

import unittest
from itertools import product

from onesheetmore.kinds import is_lot
from onesheetmore.lots import lot_of, pieces_in
from onesheetmore.numbering import share_by_number, share_number
from onesheetmore.readings import reading
from onesheetmore.shareclasses import Shares
from onesheetmore.shares import share_count, top_shares
from onesheetmore.sharespots import top_over
from onesheetmore.verdicts import goes_in
from onesheetmore.wheels import wheel_lot, wheel_refusal, wheel_spread
from onesheetmore.wholes import useful_height, useful_width, whole_ways
from samples import (
    ODD, ONE_SIZE, SIDES, SIX, THREE, TWELVE, TWO, all_kinds, check_calls, check_refusals, check_same)
import samples

LISTS = [TWO, THREE, ODD, SIDES, ONE_SIZE, ((1, 4), (1, 3)), ((1, 5), (2, 4, 8)), ((2, 6), (1, 2, 6))]


def wheel_numbers(sizes, side, useful):
    index = max([i for i, size in enumerate(sizes) if size <= side])
    many = sizes[index] // sizes[0]
    return (index, many, *divmod(useful // sizes[0], many))


class WheelsTest(unittest.TestCase):
    def test_examples(self):
        self.assertEqual([wheel_lot(TWO, (3, 3)), wheel_refusal(TWO, (3, 3)), len(wheel_spread(TWO, (3, 3)))],
                         [((0, 1, 2), (1, 0, 2)), ("heights", (0, 1)), 4])
        self.assertEqual(wheel_lot(TWO, (5, 3)), ((0, 1, 2), (1, 0, 5)))

    def assert_spread(self, lists, sheet, spread):
        """Each piece is within the sheet, and no two of them overlap."""
        grounds = []
        for a, b, sort, number, x, y in spread:
            self.assertTrue(samples.is_quotient(x) and samples.is_quotient(y))
            self.assertEqual((sort, number, x[1], y[1]), (0, 0, 1, 1))
            grounds.append((x[0], y[0], x[0] + lists[0][a], y[0] + lists[1][b]))
        for i, one in enumerate(grounds):
            self.assertTrue(one[0] >= 0 and one[1] >= 0 and one[2] <= sheet[0] and one[3] <= sheet[1])
            for other in grounds[:i]:
                self.assertFalse(one[0] < other[2] and other[0] < one[2] and one[1] < other[3] and other[1] < one[3])

    def test_on_small_sheets(self):
        seen = 0
        for lists in LISTS:
            for sheet in product(range(1, 16), repeat=2):
                lot, spread = wheel_lot(lists, sheet), wheel_spread(lists, sheet)
                staircase = wheel_refusal(lists, sheet)
                if whole_ways(lists, sheet) != "neither":
                    self.assertEqual((lot, spread, staircase), (None, None, None))
                    continue
                wide, u, g, s = wheel_numbers(lists[0], sheet[0], useful_width(lists, sheet))
                high, v, h, t = wheel_numbers(lists[1], sheet[1], useful_height(lists, sheet))
                self.assertEqual(lot, ((0, high, 2 * s + (h - 1) * (u + s)), (wide, 0, 2 * t + (g - 1) * (h * v + t))))
                self.assertTrue(is_lot(lists, lot))
                steps = [0 if b >= high else wide for b in range(len(lists[1]))]
                self.assertEqual(staircase, ("heights", tuple(steps[::-1])))
                self.assertEqual(reading(lists, ((*sheet, 1),), lot, staircase)[-1], -t)
                self.assertIs(goes_in(lists, ((*sheet, 1),), lot), False)
                if pieces_in(lists, lot) <= 60:
                    seen += 1
                    self.assertIs(type(spread), tuple)
                    self.assertEqual(lot_of(lists, tuple([piece[:2] for piece in spread])), lot)
                    self.assert_spread(lists, sheet, spread)
        self.assertGreater(seen, 100)

    def test_large(self):
        sheet = (TWELVE, TWELVE)
        g, s = divmod(TWELVE, 32)
        useful = TWELVE - TWELVE % 3
        h, t = divmod(useful // 3, 48)
        self.assertEqual(wheel_lot(SIX, sheet), (
            (0, 5, 2 * s + (h - 1) * (32 + s)), (5, 0, 2 * t + (g - 1) * (h * 48 + t))))
        self.assertEqual(wheel_refusal(SIX, sheet), ("heights", (0, 5, 5, 5, 5, 5)))
        self.assertIsNone(wheel_lot(TWO, (1, TWELVE)))

    def test_calls(self):
        for function in (wheel_lot, wheel_spread, wheel_refusal):
            check_calls(self, function, {"lists": TWO, "sheet": (5, 3)})
            check_calls(self, function, {"lists": TWO, "sheet": (4, 3)})


class SharesClassTest(unittest.TestCase):
    def test_examples(self):
        shares = Shares(THREE, (3, 2))
        self.assertEqual([shares.ways(), shares.useful(), shares.by_number(0, 0, 5)], ["up", (3, 2), (2, 1)])

    def test_as_the_functions(self):
        for lists, sheet in product(LISTS, [(1, 1), (3, 2), (5, 7), (6, 6), (7, 3)]):
            shares = Shares(lists, sheet)
            self.assertEqual(shares.ways(), whole_ways(lists, sheet))
            self.assertEqual(shares.useful(), (useful_width(lists, sheet), useful_height(lists, sheet)))
            self.assertEqual(shares.top(), top_shares(lists, sheet))
            self.assertEqual(shares.wheel(), wheel_lot(lists, sheet))
            for a, b in all_kinds(lists):
                self.assertEqual(shares.count(a, b), share_count(lists, sheet, a, b))
                for column, row in product(range(3), repeat=2):
                    for method, function in ((shares.number, share_number), (shares.over, top_over)):
                        check_same(self, lambda: method(a, b, column, row),
                                   lambda: function(lists, sheet, a, b, column, row))
                for number in range(5):
                    check_same(self, lambda: shares.by_number(a, b, number),
                               lambda: share_by_number(lists, sheet, a, b, number))

    def test_refusals(self):
        shares = Shares(lists=THREE, sheet=(3, 2))
        kind = {"a": samples.is_below(3), "b": samples.is_below(3)}
        check_refusals(self, shares.count, {"a": 1, "b": 0}, kind)
        check_refusals(self, shares.by_number, {"a": 1, "b": 0, "number": 1}, {**kind, "number": samples.is_below(2)})
        for method in (shares.number, shares.over):
            check_refusals(self, method, {"a": 0, "b": 1, "column": 1, "row": 0}, {
                **kind, "column": samples.is_below(3), "row": samples.is_below(1)})
            check_calls(self, method, {"a": 0, "b": 1, "column": 1, "row": 0})


if __name__ == "__main__":
    unittest.main()
