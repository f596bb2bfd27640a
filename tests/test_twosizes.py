"""Points 97, 98 and (G13): one sheet by lists of two widths and two heights."""

import random
import unittest

from onesheetmore.linerooms import line_refusal
from onesheetmore.listforms import turned_lists, turned_lot
from onesheetmore.spreadchecker import lets_spread
from onesheetmore.twosizes import two_counts, two_goes, two_spread, wheel_helps
from onesheetmore.verdicts import goes_in
from onesheetmore.wheels import wheel_lot
from onesheetmore.wholes import whole_ways
from samples import (
    ODD, ONE_SIZE, ROUND, SIDES, SIX, THIRTY, THREE, TWELVE, TWO, check_calls, check_refusals, refusal_of)
from test_search import UNEVEN, as_lot, counts_beside, is_told, lots_of
import samples

PAIRS = [TWO, ODD, UNEVEN, SIDES, ((1, 4), (1, 2)), ((1, 2), (1, 5)), ((2, 8), (3, 9)), ((1, 5), (1, 4))]
SMALL = [(TWO, (3, 3)), (TWO, (5, 3)), (TWO, (3, 5)), (TWO, (4, 3)), (TWO, (2, 4)), (TWO, (1, 5)), (UNEVEN, (4, 3)),
         (UNEVEN, (5, 3)), (UNEVEN, (4, 5)), (ODD, (4, 4)), (ODD, (5, 5)), (ODD, (5, 4)), (ODD, (3, 4)), (SIDES, (7, 10)),
         (((1, 4), (1, 2)), (5, 3)), (((1, 4), (1, 2)), (6, 3)), (((1, 2), (1, 4)), (3, 7))]


def definition(lists, sheet, lot):
    """The words of points 97 and 98 for a sheet that is whole neither way."""
    def side(sizes, length):
        ratio, parts = sizes[1] // sizes[0], length // sizes[0]
        return ratio, parts // ratio, parts % ratio
    (u, columns, s), (v, rows, t) = side(lists[0], sheet[0]), side(lists[1], sheet[1])
    counts = {entry[:2]: entry[2] for entry in lot}
    tall, great = counts.get((0, 1), 0), counts.get((1, 1), 0)
    x = max(0, -((rows * s - tall) // u))
    y = max(0, -(((rows + 1) * s - tall) // u))
    shares = rows * columns
    return shares, x, y, v * (shares - great - x) + t * columns + t * (x - y)


def random_lots(many, seed):
    """So many (lists, sheet, lot) of sheets that are whole neither way, the lot near to what there is room for."""
    rng = random.Random(seed)
    while many > 0:
        lists = rng.choice(PAIRS)
        sheet = (rng.randint(1, 5 * lists[0][1]), rng.randint(1, 5 * lists[1][1]))
        if whole_ways(lists, sheet) != "neither":
            continue
        many -= 1
        great, tall = rng.randint(0, 6), rng.randint(0, 40)
        counts = definition(lists, sheet, tuple([entry for entry in ((0, 1, tall), (1, 1, great)) if entry[2]]))
        flat = max(0, counts[3] + rng.choice([-1, 0, 0, 0, 1, 2]))
        area = tall * (lists[1][1] // lists[1][0]) + flat * (lists[0][1] // lists[0][0])
        area += great * (lists[1][1] // lists[1][0]) * (lists[0][1] // lists[0][0])
        free = (sheet[0] // lists[0][0]) * (sheet[1] // lists[1][0]) - area
        small = max(0, free + rng.choice([-1, 0, 0, 1]))
        yield lists, sheet, as_lot(lists, (small, tall, flat, great))


class TwoSizesTest(unittest.TestCase):
    def test_examples(self):
        self.assertEqual([two_counts(TWO, (3, 3), ROUND), two_counts(ODD, (5, 5), ((0, 1, 3), (1, 0, 5)))],
                         [(1, 1, 0, 2), (1, 1, 0, 4)])
        self.assertEqual([two_goes(ODD, (5, 5), ((0, 1, 3), (1, 0, 5))), wheel_helps(ODD, (5, 5), ((0, 1, 3), (1, 0, 4)))],
                         [False, True])
        self.assertEqual([len(two_spread(TWO, (3, 3), ROUND)), wheel_helps(TWO, (4, 2), ROUND)], [4, False])

    def check_spread(self, lists, sheet, lot):
        """two_spread against two_goes."""
        spread = two_spread(lists, sheet, lot)
        if spread is None:
            return False
        self.assertEqual(lets_spread(lists, ((*sheet, 1),), spread), lot)
        return True

    def test_beside_a_search_through_spreads(self):
        found = set()
        for lists, sheet in SMALL:
            spread = lots_of(lists, [sheet], False)
            for counts in counts_beside(lists, spread):
                lot, can_be = as_lot(lists, counts), is_told(spread, counts)
                self.assertIs(two_goes(lists, sheet, lot), can_be, (lists, sheet, lot))
                goes = goes_in(lists, ((*sheet, 1),), lot)
                self.assertIs(wheel_helps(lists, sheet, lot), can_be and not goes)
                self.assertEqual(self.check_spread(lists, sheet, lot), can_be)
                if can_be:
                    self.assertIsNone(line_refusal(lists, sheet, lot, 1))
                if can_be and not goes:
                    _, x, y, _ = two_counts(lists, sheet, lot)
                    self.assertEqual(y, x - 1)
                found.add((can_be, goes))
        self.assertEqual(found, {(True, True), (True, False), (False, False)})

    def test_counts(self):
        for lists, sheet, lot in random_lots(300, 97):
            self.assertEqual(two_counts(lists, sheet, lot), definition(lists, sheet, lot))
            # What can be spread can be spread with widths and heights exchanged.
            turned = two_goes(turned_lists(lists), sheet[::-1], turned_lot(lists, lot))
            self.assertIs(two_goes(lists, sheet, lot), turned)
        for lists, sheet in (((TWO), (4, 2)), (TWO, (1, 1)), (ODD, (5, 3)), (ODD, (2, 5)), (SIDES, (1, 1)), (SIDES, (9, 7))):
            self.assertNotEqual(whole_ways(lists, sheet), "neither")
            self.assertIsNone(two_counts(lists, sheet, ROUND))

    def test_spreads(self):
        found, helped = set(), 0
        for lists, sheet, lot in random_lots(400, 98):
            counts = {entry[:2]: entry[2] for entry in lot}
            shares, x, y, flat = definition(lists, sheet, lot)
            useful = [side - side % sizes[0] for side, sizes in zip(sheet, lists)]
            area = sum([lists[0][a] * lists[1][b] * many for a, b, many in lot])
            expected = counts.get((1, 1), 0) + x <= shares and counts.get((1, 0), 0) <= flat and (
                area <= useful[0] * useful[1])
            self.assertIs(two_goes(lists, sheet, lot), expected)
            found.add(expected)
            if sum(counts.values()) <= 150:
                self.assertEqual(self.check_spread(lists, sheet, lot), expected, (lists, sheet, lot))
                helps = wheel_helps(lists, sheet, lot)
                self.assertTrue(not helps or y == x - 1)
                helped += helps
        self.assertEqual(found, {True, False})
        self.assertGreater(helped, 20)

    def test_wheels(self):
        rng = random.Random(99)
        seen = 0
        for _ in range(300):
            lists = rng.choice(PAIRS)
            sheet = (rng.randint(1, 5 * lists[0][1]), rng.randint(1, 5 * lists[1][1]))
            lot = wheel_lot(lists, sheet)
            if lot is None:
                continue
            seen += 1
            _, x, y, flat = two_counts(lists, sheet, lot)
            rows = sheet[1] // lists[1][1]
            self.assertEqual((x, y, lot[1][2]), (rows, rows - 1, flat))
            self.assertIs(wheel_helps(lists, sheet, lot), True)
            if sum([many for _, _, many in lot]) <= 60:
                self.assertTrue(self.check_spread(lists, sheet, lot))
        self.assertGreater(seen, 60)

    def test_whole_one_way(self):
        rng = random.Random(100)
        found = set()
        for _ in range(300):
            lists = rng.choice(PAIRS)
            sheet = (rng.randint(1, 4 * lists[0][1]), rng.randint(1, 4 * lists[1][1]))
            if whole_ways(lists, sheet) == "neither":
                continue
            lot = as_lot(lists, [rng.choice([0, 1, 2, 9]) for _ in range(4)])
            goes = goes_in(lists, ((*sheet, 1),), lot)
            self.assertIs(two_goes(lists, sheet, lot), goes)
            self.assertIs(wheel_helps(lists, sheet, lot), False)
            self.assertEqual(self.check_spread(lists, sheet, lot), goes)
            found.add(goes)
        self.assertEqual(found, {True, False})

    def test_edges(self):
        for sheet in ((1, 1), (3, 3), (4, 4)):
            self.assertEqual([two_goes(TWO, sheet, ()), two_spread(TWO, sheet, ()), wheel_helps(TWO, sheet, ())],
                             [True, (), False])
        self.assertEqual(two_counts(TWO, (3, 3), ()), (1, 0, 0, 2 + 1))
        self.assertIsNone(two_spread(TWO, (3, 3), ((0, 1, 2), (1, 0, 3))))
        self.assertEqual(two_spread(SIDES, (1, 1), ((0, 0, 1),)), None)
        # Places are multiples of the narrowest width and the lowest height.
        lists = ((5, 10), (7, 14))
        for a, b, sort, sheet, x, y in two_spread(lists, (19, 27), ROUND):
            self.assertEqual((sort, sheet, x[0] % 5, x[1], y[0] % 7, y[1]), (0, 0, 0, 1, 0, 1))

    def test_large(self):
        side = TWELVE
        tall, flat = (side // 2) ** 2, THIRTY
        self.assertEqual(two_counts(TWO, (side, side), ((0, 1, tall),)), definition(TWO, (side, side), ((0, 1, tall),)))
        lot = wheel_lot(TWO, (side, side))
        self.assertEqual([two_goes(TWO, (side, side), lot), wheel_helps(TWO, (side, side), lot)], [True, True])
        self.assertIs(two_goes(TWO, (side, side), ((0, 1, tall), (1, 0, flat))), False)

    def test_refusals(self):
        given = {"lists": TWO, "sheet": (3, 3), "lot": ROUND}
        for function in (two_counts, two_goes, two_spread, wheel_helps):
            check_refusals(self, function, given, {"lot": samples.is_lot(TWO)})
            check_calls(self, function, given)
            for lists in (THREE, ONE_SIZE, SIX, ((1, 2), (1,)), ((1,), (1, 2)), ((1, 2), (1, 2, 4)), ((1, 2, 4), (1, 2))):
                self.assertEqual(refusal_of(lambda: function(lists, (3, 3), None)), ("lists", -1))
                self.assertEqual(refusal_of(lambda: function(lists, (4, 4), ())), ("lists", -1))


if __name__ == "__main__":
    unittest.main()
