"""Point 86 and (G11): what is left over of the sheets of a laying when they are sawn."""

import random
import unittest

from onesheetmore.layings import lay_by_heights
from onesheetmore.lookups import laying_lot
from onesheetmore.lots import area_of
from onesheetmore.offcuts import offcuts_of, scraps_of
from onesheetmore.plans import parts_of, plan_of
from onesheetmore.rests import used_sheets
from onesheetmore.wholes import is_whole_across
from layingsamples import LAID, is_laying_of, random_layings
from plansamples import pieces_on
from samples import SIDES, SIX, STOCK, THIRTY, TWELVE, TWO, check_calls, check_refusals
from test_layings import random_lots

LONE = ((1, 0, 0, (0, 1), (0, 1), (0, 1)),)


def rests_by_sheets(lists, stock, laying):
    """(width, height) of all rests of the plans of all sheets in which a piece lies, sheet by sheet."""
    found = []
    for sort, (width, height, many) in enumerate(stock):
        for sheet in range(many):
            if pieces_on(lists, laying, sort, sheet):
                plan = plan_of(lists, stock, laying, sort, sheet)
                found += [part[3:] for part in parts_of(lists, (width, height), plan) if part[0] is None]
    return found


def area_used(stock, counts):
    return sum([width * height * many for (width, height, _), many in zip(stock, counts)])


def stock_area(stock):
    return sum([width * height * many for width, height, many in stock])


class OffcutsTest(unittest.TestCase):
    def test_example(self):
        self.assertEqual(offcuts_of(SIDES[:1] + ((3,),), ((7, 8, 1),), LONE), ((2, 6, 1), (4, 3, 1)))
        self.assertEqual(scraps_of(((2, 4), (3,)), ((7, 8, 1),), LONE), 7 * 2 + 1 * 6)

    def check_areas(self, lists, stock, laying):
        """The consequences of stages 22 and 23."""
        offcuts, scraps = offcuts_of(lists, stock, laying), scraps_of(lists, stock, laying)
        lot = laying_lot(lists, stock, laying)
        self.assertEqual(area_used(stock, used_sheets(lists, stock, laying)), area_of(lists, lot) + stock_area(offcuts) + scraps)
        self.assertTrue(all([is_whole_across(lists, (width, height)) for width, height, _ in offcuts]))
        self.assertEqual([sheet[:2] for sheet in offcuts], sorted({sheet[:2] for sheet in offcuts}))
        return offcuts, scraps

    def test_sheet_by_sheet(self):
        seen = 0
        layings = random_layings(200, 86)
        layings += [(lists, stock, lay_by_heights(lists, stock, lot)) for lists, stock, lot in random_lots(100, 87)]
        for lists, stock, laying in layings:
            rests = rests_by_sheets(lists, stock, laying)
            kept = [rest for rest in rests if rest[0] >= lists[0][0] and rest[1] >= lists[1][0]]
            offcuts, scraps = self.check_areas(lists, stock, laying)
            self.assertEqual(offcuts, tuple([(*rest, kept.count(rest)) for rest in sorted(set(kept))]))
            self.assertEqual(scraps, sum([width * height for width, height in rests if (width, height) not in kept]))
            seen += len(offcuts) > 1 and scraps > 0
        self.assertGreater(seen, 25)

    def test_as_many_sheets_as_there_may_be(self):
        rng = random.Random(88)
        for lists in (TWO, SIDES, SIX):
            width, height = 3 * lists[0][1] + 1, 4 * lists[1][1] + 2
            stock = ((width, height, THIRTY), (height, width, THIRTY), (width, height, 10 ** 29))
            boxes = []
            for at in range(12):
                # Each box lies on a row of its own, on sheets of many figures.
                first, many = rng.randint(0, 10 ** 29), rng.randint(1, 9 * 10 ** 29 - 1)
                boxes.append((at // 4 % 2, 0, 0, (first, many), (0, 1), (at % 4, 1)) if at < 4 else
                             (0, 0, 2, (10 ** 28 * (at - 4), 10 ** 28), (at % 3, 1), (0, 1)))
            offcuts, scraps = self.check_areas(lists, stock, tuple(boxes))
            self.assertGreater(sum([many for _, _, many in offcuts]), 10 ** 29)
            self.assertGreaterEqual(scraps, 0)
        # One piece on each of very many sheets: as often what is left of one.
        many = ((1, 0, 0, (0, THIRTY), (0, 1), (0, 1)),)
        self.assertEqual(offcuts_of(((2, 4), (3,)), ((7, 8, THIRTY),), many), ((2, 6, THIRTY), (4, 3, THIRTY)))
        self.assertEqual(scraps_of(((2, 4), (3,)), ((7, 8, THIRTY),), many), 20 * THIRTY)

    def test_edges(self):
        for lists, stock in ((TWO, STOCK), (TWO, ()), (SIX, ((TWELVE, TWELVE, THIRTY),))):
            self.assertEqual([offcuts_of(lists, stock, ()), scraps_of(lists, stock, ())], [(), 0])
        full = ((1, 1, 0, (0, 3), (0, 2), (0, 1)),)
        self.assertEqual([offcuts_of(TWO, ((4, 2, 9),), full), scraps_of(TWO, ((4, 2, 9),), full)], [(), 0])
        self.assertEqual([offcuts_of(((2, 4), (2,)), ((5, 3, 2),), ((1, 0, 0, (1, 1), (0, 1), (0, 1)),)),
                          scraps_of(((2, 4), (2,)), ((5, 3, 2),), ((1, 0, 0, (1, 1), (0, 1), (0, 1)),))], [(), 7])

    def test_refusals(self):
        given = {"lists": TWO, "stock": STOCK, "laying": LAID}
        for function in (offcuts_of, scraps_of):
            check_refusals(self, function, given, {"laying": is_laying_of(TWO, STOCK)})
            check_calls(self, function, given)


if __name__ == "__main__":
    unittest.main()
