"""Points 67 to 69 with (G7) to (G9): areas, blocks, lots that need one more, copies."""

import random
import unittest

from onesheetmore.areas import area_sheets, blocks_in, fewest_blocks, is_one_more, tells_at_once
from onesheetmore.chains import dear_lot, tells_by_area
from onesheetmore.copies import blocks_for, copies_for, copies_period, first_one_more, most_copies
from onesheetmore.errors import NotWhole
from onesheetmore.fewest import fewest
from onesheetmore.verdicts import goes_in
from onesheetmore.wholes import whole_ways
from countsamples import (
    DEAR, LISTS, PAIR, area_of, block_of, counted_cases, is_sheet_of_blocks, is_sheet_roomy, lot_times, random_lot,
    roomy_sheets, stock_of)
from samples import (
    ODD, ONE_SIZE, ROUND, SIX, THIRTY, THREE, TWELVE, TWO, all_kinds, check_calls, check_refusals, read_no_error,
    refusal_of)
import countsamples
import samples


def crossing_pairs(lists):
    return [(y, z) for y in all_kinds(lists) for z in all_kinds(lists) if y[0] > z[0] and y[1] < z[1]]


def in_smallest(lists):
    """(P, S): how many smallest widths and heights a block has."""
    return (lists[0][-1] // lists[0][0], lists[1][-1] // lists[1][0])


def lots_of_area(lists, cells):
    """All lots whose area is so many smallest shares."""
    found = [((), cells)]
    for a, b in all_kinds(lists):
        size = (lists[0][a] // lists[0][0]) * (lists[1][b] // lists[1][0])
        found = [(lot + (((a, b, many),) if many else ()), left - many * size)
                 for lot, left in found for many in range(left // size + 1)]
    return [lot for lot, left in found if left == 0]


class AreasTest(unittest.TestCase):
    def test_examples(self):
        self.assertEqual([area_sheets(TWO, DEAR, (4, 2)), is_one_more(TWO, DEAR, (4, 2)), fewest_blocks(TWO, DEAR)],
                         [1, True, 3])
        self.assertEqual([blocks_in(TWO, (4, 2)), blocks_in(TWO, (3, 2)), blocks_in(((2, 4), (3,)), (9, 3))], [2, None, 2])
        self.assertEqual([tells_at_once(TWO, ((0, 0, 7),)), tells_at_once(TWO, ROUND)], [True, False])

    def test_sheets_by_area(self):
        found = set()
        for lists, lot, sheet in counted_cases(200, 80):
            told = area_sheets(lists, lot, sheet)
            self.assertEqual(told, countsamples.area_sheets(lists, lot, sheet))
            one_more = read_no_error(lambda: is_one_more(lists, lot, sheet))
            if whole_ways(lists, sheet) == "neither":
                self.assertEqual((type(one_more), one_more.index), (NotWhole, 0))
            else:
                self.assertIs(one_more, fewest(lists, lot, sheet) == told + 1)
                found.add(one_more)
        self.assertEqual(found, {True, False})

    def test_blocks(self):
        found = set()
        for lists, lot, sheet in counted_cases(200, 81):
            blocks, block = fewest_blocks(lists, lot), block_of(lists)
            area = countsamples.area_sheets(lists, lot, block)
            self.assertEqual(blocks, fewest(lists, lot, block))
            self.assertIn(blocks - area, (0, 1))
            width, height = [side - side % sizes[0] for side, sizes in zip(sheet, lists)]
            many = blocks_in(lists, sheet)
            if width % block[0] == 0 and height % block[1] == 0:
                self.assertEqual(many, width * height // (block[0] * block[1]))
                self.assertEqual(fewest(lists, lot, sheet), -(-blocks // many))
            else:
                self.assertIsNone(many)
            found.add((many is None, blocks - area))
        self.assertEqual(len(found), 4)

    def test_tells_at_once(self):
        found = set()
        for lists, lot, _ in counted_cases(300, 82):
            across, up = in_smallest(lists)
            cells = area_of(lists, lot) // (lists[0][0] * lists[1][0])
            last = cells - across * up * ((cells - 1) // (across * up))
            expected = lot == () or last < across + up
            self.assertIs(tells_at_once(lists, lot), expected)
            found.add(expected)
            if expected:
                self.assertEqual(fewest_blocks(lists, lot), countsamples.area_sheets(lists, lot, block_of(lists)))
        self.assertEqual(found, {True, False})

    def test_where_it_does_not_tell(self):
        for lists in (TWO, ODD, ((1, 2, 4), (1, 2)), ((2, 6), (1, 2)), ((1, 2), (3,)), ONE_SIZE):
            across, up = in_smallest(lists)
            for cells in range(1, 2 * across * up + 1):
                lots = lots_of_area(lists, cells)
                needs = [fewest_blocks(lists, lot) - -(-cells // (across * up)) for lot in lots]
                self.assertEqual(max(needs), 0 if tells_at_once(lists, lots[0]) else 1, (lists, cells))

    def test_large(self):
        self.assertEqual(area_sheets(TWO, ((1, 1, THIRTY),), (TWELVE, TWELVE)), -(-4 * THIRTY // TWELVE ** 2))
        self.assertEqual(blocks_in(SIX, (32 * 10 ** 10, 144 * 10 ** 9 + 2)), 10 ** 19)
        self.assertEqual(fewest_blocks(TWO, ((0, 1, THIRTY), (1, 0, 1))), (THIRTY + 1) // 2 + 1)

    def test_refusals(self):
        lot, sheet = {"lot": samples.is_lot(TWO)}, {"sheet": is_sheet_roomy(TWO)}
        for function in (area_sheets, is_one_more):
            check_refusals(self, function, {"lists": TWO, "lot": DEAR, "sheet": (4, 2)}, {**lot, **sheet})
            check_calls(self, function, {"lists": TWO, "lot": DEAR, "sheet": (4, 2)})
        check_refusals(self, blocks_in, {"lists": TWO, "sheet": (4, 2)}, sheet)
        check_calls(self, blocks_in, {"lists": TWO, "sheet": (4, 2)})
        for function in (fewest_blocks, tells_at_once):
            check_refusals(self, function, {"lists": TWO, "lot": DEAR}, lot)
            check_calls(self, function, {"lists": TWO, "lot": DEAR})
        for call in (lambda: blocks_in(TWO, (1, 5)), lambda: area_sheets(TWO, (), (5, 1)),
                     lambda: is_one_more(THREE, ROUND, (3, 4))):
            self.assertEqual(refusal_of(call), ("sheet", -1))
        self.assertEqual(area_sheets(TWO, ROUND, (3, 3)), 1)


class ChainsTest(unittest.TestCase):
    def test_examples(self):
        self.assertEqual([tells_by_area(TWO, ((0, 0), (1, 0), (1, 1))), tells_by_area(TWO, ((0, 1), (1, 0)))],
                         [True, False])
        self.assertEqual(dear_lot(TWO, (4, 2), 1, (1, 0), (0, 1)), ((0, 1, 1), (1, 0, 3)))

    def test_tells_by_area(self):
        rng = random.Random(83)
        found = set()
        for _ in range(200):
            lists = rng.choice(LISTS[:9])
            kinds = tuple([kind for kind in all_kinds(lists) if rng.random() < 0.3])
            expected = not [y for y, z in crossing_pairs(lists) if y in kinds and z in kinds]
            self.assertIs(tells_by_area(lists, kinds), expected)
            found.add((expected, len(kinds) > 1))
            for _ in range(3 if expected else 0):
                lot = tuple([(*kind, rng.randint(1, 20)) for kind in kinds if rng.random() < 0.7])
                for sheet in [one for one in roomy_sheets(lists, rng) if is_sheet_of_blocks(lists)(one)]:
                    self.assertEqual(fewest(lists, lot, sheet), countsamples.area_sheets(lists, lot, sheet))
        self.assertIs(tells_by_area(TWO, ()), True)
        self.assertLessEqual({(True, True), (False, True)}, found)

    def test_dear_lot(self):
        rng = random.Random(84)
        for lists in (TWO, THREE, ODD, ((1, 2, 4), (1, 3)), ((2, 6), (1, 2, 6))):
            for y, z in crossing_pairs(lists):
                for sheet in [one for one in roomy_sheets(lists, rng) if is_sheet_of_blocks(lists)(one)]:
                    for sheets in (1, 2, 7, 10 ** 29):
                        lot = dear_lot(lists, sheet, sheets, y, z)
                        shares = (sheet[0] // lists[0][y[0]]) * (sheet[1] // lists[1][z[1]])
                        many = (sheets * shares - 1) * (lists[1][z[1]] // lists[1][y[1]]) + 1
                        self.assertEqual(lot, ((*z, 1), (*y, many)))
                        self.assertEqual(countsamples.area_sheets(lists, lot, sheet), sheets)
                        self.assertEqual(fewest(lists, lot, sheet), sheets + 1)

    def test_refusals(self):
        given = {"lists": TWO, "kinds": ((0, 1), (1, 0))}
        check_refusals(self, tells_by_area, given, {"kinds": samples.is_kinds(TWO)})
        check_calls(self, tells_by_area, given)
        given = {"lists": THREE, "sheet": (8, 4), "sheets": 2, "y": (1, 0), "z": (0, 2)}
        check_refusals(self, dear_lot, given, {
            "sheet": is_sheet_of_blocks(THREE), "sheets": samples.is_count, "y": samples.is_kind(THREE),
            "z": lambda thing: samples.is_kind(THREE)(thing) and thing[0] < 1 and thing[1] > 0})
        check_calls(self, dear_lot, given)
        for z in ((1, 0), (1, 1), (2, 0), (0, 0), (2, 2)):
            self.assertEqual(refusal_of(lambda: dear_lot(THREE, (8, 4), 2, (1, 0), z)), ("z", -1))
        for sheet in ((6, 4), (4, 6), (4, 3), (2, 8)):
            self.assertEqual(refusal_of(lambda: dear_lot(THREE, sheet, 2, (1, 0), (0, 1))), ("sheet", -1))
        self.assertEqual(refusal_of(lambda: dear_lot(THREE, (4, 4), 0, (1, 0), (0, 1))), ("sheets", -1))


class CopiesTest(unittest.TestCase):
    def test_examples(self):
        self.assertEqual([blocks_for(TWO, PAIR, 3), blocks_for(TWO, PAIR, 10 ** 19 - 1), copies_period(THREE)],
                         [4, 10000000000000000000, 16])
        self.assertEqual([copies_for(TWO, PAIR, (4, 2), 3), most_copies(TWO, PAIR, (2, 2), 3)], [2, 2])
        self.assertEqual([first_one_more(THREE, ((0, 2, 3), (2, 0, 3)), 200), first_one_more(TWO, ROUND, 200)], [2, None])

    def test_blocks_for(self):
        rng = random.Random(85)
        for lists, lot, sheet in counted_cases(150, 86):
            for many in (0, 1, 2, rng.randint(3, 99), 10 ** 29 + rng.randint(0, 99)):
                copies = lot_times(lot, many)
                self.assertEqual(blocks_for(lists, lot, many), fewest(lists, copies, block_of(lists)))
                if is_sheet_of_blocks(lists)(sheet):
                    self.assertEqual(copies_for(lists, lot, sheet, many), fewest(lists, copies, sheet))

    def test_period(self):
        rng = random.Random(87)
        for lists, lot, _ in counted_cases(100, 88):
            across, up = in_smallest(lists)
            period = copies_period(lists)
            self.assertEqual(period, across * up)
            blocks = area_of(lists, lot) // (lists[0][0] * lists[1][0])
            self.assertEqual(blocks_for(lists, lot, period), blocks)
            for many in ((across - 1) * (up - 1), (across - 1) * (up - 1) + rng.randint(0, 40)):
                self.assertEqual(blocks_for(lists, lot, many + period), blocks_for(lists, lot, many) + blocks)

    def test_most_copies(self):
        rng = random.Random(89)
        for lists, lot, sheet in counted_cases(200, 90):
            if lot == () or not is_sheet_of_blocks(lists)(sheet):
                continue
            for sheets in (0, 1, rng.randint(2, 60), rng.randint(1, THIRTY)):
                many = most_copies(lists, lot, sheet, sheets)
                self.assertTrue(goes_in(lists, stock_of(sheet, sheets), lot_times(lot, many)))
                self.assertFalse(goes_in(lists, stock_of(sheet, sheets), lot_times(lot, many + 1)))
                self.assertTrue(copies_for(lists, lot, sheet, many) <= sheets < copies_for(lists, lot, sheet, many + 1))

    def test_most_copies_on_few_sheets(self):
        short = set()
        for lists in (TWO, THREE, ODD, ((1, 2, 4), (1, 3))):
            sheet = block_of(lists)
            for y, z in crossing_pairs(lists):
                lot = tuple(sorted([(*y, 1), (*z, 1)]))
                for sheets in range(1, 13):
                    fitting = [many for many in range(sheets * sheet[0] * sheet[1] // area_of(lists, lot) + 1)
                               if goes_in(lists, stock_of(sheet, sheets), lot_times(lot, many))]
                    self.assertEqual(most_copies(lists, lot, sheet, sheets), fitting[-1])
                    short.add(sheets * sheet[0] * sheet[1] // area_of(lists, lot) - fitting[-1])
        self.assertGreater(max(short), 1)

    def test_first_one_more(self):
        rng = random.Random(91)
        found = set()
        for _ in range(80):
            lists = rng.choice(LISTS[:8])
            pairs = crossing_pairs(lists)
            lot = random_lot(lists, rng)
            if pairs and rng.random() < 0.7:
                lot = tuple(sorted([(*kind, rng.randint(1, 3)) for kind in rng.choice(pairs)]))
            block = block_of(lists)
            needing = [many for many in range(1, 31) if fewest_blocks(lists, lot_times(lot, many))
                       == countsamples.area_sheets(lists, lot_times(lot, many), block) + 1]
            for limit in (0, 1, 2, 30):
                within = [many for many in needing if many <= limit]
                self.assertEqual(first_one_more(lists, lot, limit), within[0] if within else None)
            found.add(needing[0] if needing else None)
        self.assertGreater(len(found), 2)
        self.assertIsNone(first_one_more(TWO, (), 200))

    def test_refusals(self):
        lot, many = {"lot": samples.is_lot(TWO)}, {"many": samples.is_number}
        sheet = {"sheet": is_sheet_of_blocks(TWO)}
        given = {"lists": TWO, "lot": PAIR, "many": 3}
        check_refusals(self, blocks_for, given, {**lot, **many})
        check_calls(self, blocks_for, given)
        given = {"lists": TWO, "lot": PAIR, "sheet": (4, 2), "many": 3}
        check_refusals(self, copies_for, given, {**lot, **sheet, **many})
        check_calls(self, copies_for, given)
        given = {"lists": TWO, "lot": PAIR, "sheet": (4, 2), "sheets": 3}
        check_refusals(self, most_copies, given, {
            "lot": lambda thing: samples.is_lot(TWO)(thing) and thing != (), **sheet, "sheets": samples.is_number})
        check_calls(self, most_copies, given)
        given = {"lists": TWO, "lot": PAIR, "limit": 20}
        check_refusals(self, first_one_more, given, {**lot, "limit": samples.is_below(201)})
        check_calls(self, first_one_more, given)
        check_calls(self, copies_period, {"lists": THREE})
        for function in (copies_for, most_copies):
            for bad in ((3, 2), (2, 3), (1, 4)):
                self.assertEqual(refusal_of(lambda: function(TWO, PAIR, bad, 1)), ("sheet", -1))
        self.assertEqual(refusal_of(lambda: most_copies(TWO, (), None, 1)), ("lot", -1))
        self.assertEqual(refusal_of(lambda: first_one_more(TWO, PAIR, 201)), ("limit", -1))
        self.assertEqual(copies_for(TWO, (), (2, 2), 5), 0)
        # An odd number of pairs asks for one block more than its area.
        blocks = THIRTY * (TWELVE - 1) // 2
        self.assertEqual(most_copies(TWO, PAIR, (TWELVE - 1, 2), THIRTY), blocks - blocks % 2)


if __name__ == "__main__":
    unittest.main()
