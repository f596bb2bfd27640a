"""Points 6, 8 and 26: how many shares sheets have."""

import unittest
from itertools import product

from onesheetmore.shares import bands_in, columns_in, share_count, stock_shares, top_shares
from onesheetmore.wholes import useful_height, useful_width
from samples import (
    ODD, ONE_SIZE, SIDES, SIX, STOCK, THIRTY, THREE, TWELVE, TWO, all_kinds, check_calls, check_refusals)
import samples


def grounds_of(lists, sheet):
    """The ground (left, bottom, right, top) of each share of the sheet, with its kind."""
    for a, b in all_kinds(lists):
        width, height = lists[0][a], lists[1][b]
        for x, y in product(range(0, sheet[0] - width + 1, width), range(0, sheet[1] - height + 1, height)):
            yield (a, b), (x, y, x + width, y + height)


def lies_in(one, other):
    return other[0] <= one[0] and other[1] <= one[1] and one[2] <= other[2] and one[3] <= other[3]


class SharesTest(unittest.TestCase):
    def test_examples(self):
        self.assertEqual([columns_in(THREE, 7), top_shares(THREE, (3, 2)), stock_shares(THREE, STOCK, 1, 1)],
                         [(1, 1, 1), ((0, 1, 1), (1, 1, 1)), 9])

    def test_against_the_grounds(self):
        for lists in (TWO, THREE, ODD, SIDES, ONE_SIZE):
            for sheet in product((1, 2, 3, 5, 6, 7), repeat=2):
                shares = list(grounds_of(lists, sheet))
                tops = [(kind, ground) for kind, ground in shares if not [
                    other for other, around in shares
                    if (other[0] > kind[0] or other[1] > kind[1]) and lies_in(ground, around)]]
                for a, b in all_kinds(lists):
                    self.assertEqual(share_count(lists, sheet, a, b), len([1 for kind, _ in shares if kind == (a, b)]))
                    self.assertEqual(stock_shares(lists, ((*sheet, 3), (4, 4, THIRTY)), a, b),
                                     3 * share_count(lists, sheet, a, b) + THIRTY * share_count(lists, (4, 4), a, b))
                counts = {kind: len([1 for other, _ in tops if other == kind]) for kind, _ in tops}
                self.assertEqual(top_shares(lists, sheet), tuple([(*kind, counts[kind]) for kind in sorted(counts)]))
                area = sum([lists[0][a] * lists[1][b] * many for a, b, many in top_shares(lists, sheet)])
                self.assertEqual(area, useful_width(lists, sheet) * useful_height(lists, sheet))

    def test_columns_and_bands(self):
        for lists in (TWO, THREE, ODD, SIDES, ONE_SIZE, SIX):
            for side in range(80):
                for sizes, parts in ((lists[0], columns_in(lists, side)), (lists[1], bands_in(lists, side))):
                    self.assertEqual(len(parts), len(sizes))
                    for i, many in enumerate(parts):
                        rest = side % sizes[i + 1] if i + 1 < len(sizes) else side
                        self.assertEqual(many, rest // sizes[i])

    def test_edges(self):
        self.assertEqual([columns_in(THREE, 0), bands_in(SIDES, 2)], [(0, 0, 0), (0, 0)])
        self.assertEqual(top_shares(SIDES, (1, 100)), ())
        self.assertEqual(top_shares(SIDES, (100, 2)), ())
        self.assertEqual(top_shares(TWO, (4, 4)), ((1, 1, 4),))
        self.assertEqual(top_shares(TWO, (1, 3)), ((0, 0, 1), (0, 1, 1)))
        self.assertEqual(share_count(TWO, (TWELVE, TWELVE), 0, 0), TWELVE * TWELVE)
        self.assertEqual(share_count(TWO, (1, 1), 1, 0), 0)
        self.assertEqual(stock_shares(TWO, (), 0, 0), 0)
        self.assertEqual(stock_shares(TWO, ((TWELVE, 3, THIRTY),), 1, 1), (TWELVE // 2) * THIRTY)
        self.assertEqual(columns_in(THREE, TWELVE), (1, 1, TWELVE // 4))

    def test_refusals(self):
        index = {"a": samples.is_below(3), "b": samples.is_below(2)}
        lists = ((1, 2, 4), (1, 2))
        for function, given in (
                (share_count, {"lists": lists, "sheet": (4, 4), "a": 1, "b": 0}),
                (stock_shares, {"lists": lists, "stock": STOCK, "a": 2, "b": 1})):
            check_refusals(self, function, given, index)
            check_calls(self, function, given)
        check_refusals(self, stock_shares, {"lists": lists, "stock": (), "a": 2, "b": 1}, index)
        check_refusals(self, columns_in, {"lists": TWO, "width": 1}, {"width": samples.is_number})
        check_refusals(self, bands_in, {"lists": TWO, "height": 0}, {"height": samples.is_number})
        check_calls(self, columns_in, {"lists": TWO, "width": 7})
        check_calls(self, bands_in, {"lists": TWO, "height": 7})
        check_calls(self, top_shares, {"lists": TWO, "sheet": (3, 5)})


if __name__ == "__main__":
    unittest.main()
