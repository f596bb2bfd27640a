"""Points 47 and 48: what layings leave free, and layings sheet by sheet."""

import unittest
from itertools import product

from onesheetmore.layingchecker import lets_laying
from onesheetmore.layings import lay_by_heights
from onesheetmore.lookups import laying_lot
from onesheetmore.lots import area_of
from onesheetmore.rests import free_shares, rests_of, used_sheets
from onesheetmore.sheetlayings import like_sheets, on_sheet
from layingsamples import LAID, is_laying_of, pieces_of, random_layings, smallest_cells, striped
from samples import STOCK, THIRTY, THREE, TWELVE, TWO, all_kinds, check_calls, check_refusals, refusal_of
from test_boxes import cells_in
import samples

GIVEN = {"lists": TWO, "stock": STOCK, "laying": LAID}
LAYING = {"laying": is_laying_of(TWO, STOCK)}


class RestsTest(unittest.TestCase):
    def test_examples(self):
        self.assertEqual(area_of(TWO, laying_lot(TWO, STOCK, rests_of(TWO, STOCK, LAID))), 26)
        self.assertEqual(free_shares(TWO, STOCK, LAID, 1, 1),
                         ((1, 0, 0, 1), (1, 0, 1, 1), (1, 1, 0, 1), (1, 1, 1, 1)))
        self.assertEqual(used_sheets(TWO, STOCK, LAID), (1, 2))

    def test_rests(self):
        for lists, stock, laying in random_layings(200, 4):
            rests = rests_of(lists, stock, laying)
            self.assertTrue(is_laying_of(lists, stock)(laying + rests), (lists, stock, laying, rests))
            cells = {cell for box in laying + rests for cell in cells_in(lists, box)}
            self.assertEqual(cells, smallest_cells(lists, stock))

    def test_rests_of_all_and_of_nothing(self):
        whole = lay_by_heights(TWO, STOCK, ((0, 0, 38),))
        self.assertEqual(rests_of(TWO, STOCK, whole), ())
        self.assertEqual(rests_of(TWO, (), ()), ())
        self.assertEqual(rests_of(((4,), (1,)), ((3, 9, 2),), ()), ())
        self.assertEqual(laying_lot(TWO, STOCK, rests_of(TWO, STOCK, rests_of(TWO, STOCK, LAID))), ((0, 0, 12),))

    def test_free_shares(self):
        for lists, stock, laying in random_layings(100, 5):
            taken = {cell for box in laying for cell in cells_in(lists, box)}
            for a, b in all_kinds(lists):
                expected = []
                for sort, (width, height, many) in enumerate(stock):
                    for share in product([sort], range(many), range(width // lists[0][a]), range(height // lists[1][b])):
                        box = (a, b, sort, *[(place, 1) for place in share[1:]])
                        expected.extend([] if cells_in(lists, box) & taken else [share])
                self.assertEqual(free_shares(lists, stock, laying, a, b), tuple(expected))

    def test_used_sheets(self):
        for lists, stock, laying in random_layings(200, 6):
            sheets = {piece[2:4] for piece in pieces_of(laying)}
            expected = [len([one for one in sheets if one[0] == sort]) for sort in range(len(stock))]
            self.assertEqual(used_sheets(lists, stock, laying), tuple(expected))

    def test_large(self):
        lists, stock, laying = striped(300)
        self.assertEqual(used_sheets(lists, stock, laying), (THIRTY - 10,))
        rests = rests_of(lists, stock, laying)
        area = area_of(lists, lets_laying(lists, stock, laying + rests))
        self.assertEqual(area, TWELVE ** 2 * THIRTY)
        self.assertEqual(free_shares(((1,), (1,)), ((1, 1, 400),), ((0, 0, 0, (0, 399), (0, 1), (0, 1)),), 0, 0),
                         ((0, 399, 0, 0),))

    def test_refusals(self):
        check_refusals(self, rests_of, GIVEN, LAYING)
        check_refusals(self, used_sheets, GIVEN, LAYING)
        check_refusals(self, free_shares, {**GIVEN, "a": 1, "b": 0}, {
            **LAYING, "a": samples.is_below(2), "b": samples.is_below(2)})
        check_calls(self, rests_of, GIVEN)
        check_calls(self, used_sheets, GIVEN)
        check_calls(self, free_shares, {**GIVEN, "a": 1, "b": 0})


def boxes_in(laying, sort, sheet):
    return tuple([(*box[:2], 0, (0, 1), *box[4:]) for box in laying
                  if box[2] == sort and sheet in range(box[3][0], sum(box[3]))])


class SheetLayingsTest(unittest.TestCase):
    def test_examples(self):
        self.assertEqual(on_sheet(TWO, STOCK, LAID, 1, 1), ((0, 1, 0, (0, 1), (1, 2), (0, 1)),))
        self.assertEqual(like_sheets(TWO, STOCK, LAID), ((0, (0, 1)), (1, (0, 2))))
        self.assertEqual(like_sheets(TWO, STOCK, ((0, 1, 1, (1, 1), (1, 2), (0, 1)),)),
                         ((0, (0, 1)), (1, (0, 1)), (1, (1, 1))))

    def test_on_sheet(self):
        for lists, stock, laying in random_layings(150, 7):
            for sort, (width, height, many) in enumerate(stock):
                for sheet in range(many):
                    told = on_sheet(lists, stock, laying, sort, sheet)
                    self.assertEqual(told, boxes_in(laying, sort, sheet))
                    self.assertTrue(is_laying_of(lists, ((width, height, 1),))(told))

    def test_like_sheets(self):
        joined = 0
        for lists, stock, laying in random_layings(150, 8):
            # Boxes sheet by sheet, in any sequence, are the same boxes.
            single = tuple([(*box[:3], (sheet, 1), *box[4:]) for box in laying for sheet in range(box[3][0], sum(box[3]))])
            for thing in (laying, laying[::-1], single, single[::-1]):
                pairs = like_sheets(lists, stock, thing)
                self.assertEqual(list(pairs), sorted(pairs))
                expected = []
                for sort, (_, _, many) in enumerate(stock):
                    for sheet in range(many):
                        held = sorted(boxes_in(laying, sort, sheet))
                        if sheet > 0 and held == sorted(boxes_in(laying, sort, sheet - 1)):
                            expected[-1] = (sort, (expected[-1][1][0], expected[-1][1][1] + 1))
                        else:
                            expected.append((sort, (sheet, 1)))
                self.assertEqual(pairs, tuple(expected))
            joined += any([span[1] > 1 for _, span in pairs])
        self.assertGreater(joined, 10)
        self.assertEqual(like_sheets(TWO, (), ()), ())
        self.assertEqual(like_sheets(TWO, STOCK, ()), ((0, (0, 1)), (1, (0, 2))))

    def test_pieces_count_by_boxes(self):
        # The same pieces in other boxes: only the boxes are compared.
        boxes = ((0, 0, 0, (0, 1), (0, 2), (0, 1)), (0, 0, 0, (1, 1), (0, 1), (0, 1)), (0, 0, 0, (1, 1), (1, 1), (0, 1)))
        self.assertEqual(like_sheets(TWO, ((3, 3, 2),), boxes), ((0, (0, 1)), (0, (1, 1))))

    def test_large(self):
        lists, stock, laying = striped(300)
        self.assertEqual(like_sheets(lists, stock, laying), ((0, (0, 7)), (0, (7, THIRTY - 10)), (0, (THIRTY - 3, 3))))
        self.assertEqual(len(on_sheet(lists, stock, laying, 0, THIRTY - 4)), 300)
        self.assertEqual(on_sheet(lists, stock, laying, 0, THIRTY - 3), ())

    def test_refusals(self):
        check_refusals(self, like_sheets, GIVEN, LAYING)
        check_refusals(self, on_sheet, {**GIVEN, "sort": 1, "sheet": 1}, {
            **LAYING, "sort": samples.is_below(2), "sheet": samples.is_below(2)})
        self.assertEqual(refusal_of(lambda: on_sheet(TWO, STOCK, LAID, 0, 1)), ("sheet", -1))
        self.assertEqual(refusal_of(lambda: on_sheet(THREE, (), (), 0, 0)), ("sort", -1))
        check_calls(self, like_sheets, GIVEN)
        check_calls(self, on_sheet, {**GIVEN, "sort": 1, "sheet": 0})


if __name__ == "__main__":
    unittest.main()
