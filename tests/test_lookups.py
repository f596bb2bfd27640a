"""Point 46: looking into layings."""

import unittest
from itertools import product

from onesheetmore.lookups import laying_lot, nth_piece, piece_at, piece_number
from layingsamples import LAID, is_laying_of, lot_of_pieces, pieces_of, random_layings, striped
from samples import STOCK, THIRTY, TWELVE, TWO, all_kinds, check_calls, check_refusals, refusal_of
from test_boxes import cells_in, shares_in
import samples

GIVEN = {"lists": TWO, "stock": STOCK, "laying": LAID}
LAYING = {"laying": is_laying_of(TWO, STOCK)}


class LookupsTest(unittest.TestCase):
    def test_examples(self):
        self.assertEqual(nth_piece(TWO, STOCK, LAID, (0, 1), 2), (1, 1, 1, 0))
        self.assertEqual(piece_number(TWO, STOCK, LAID, (0, 1), (1, 1, 2, 0)), 3)
        self.assertEqual([piece_at(TWO, STOCK, LAID, 1, 0, 2, 1), piece_at(TWO, STOCK, LAID, 1, 0, 3, 0)],
                         [(0, 1, 2, 0), None])

    def test_lot(self):
        for lists, stock, laying in random_layings(150, 1):
            lot = laying_lot(lists, stock, laying)
            self.assertIs(type(lot), tuple)
            self.assertEqual(lot, lot_of_pieces(pieces_of(laying)))
        self.assertEqual([laying_lot(TWO, STOCK, ()), laying_lot(TWO, (), ())], [(), ()])

    def test_numbers(self):
        for lists, stock, laying in random_layings(120, 2):
            for kind in all_kinds(lists):
                shares = [share for box in laying if box[:2] == kind for share in shares_in(box)]
                told = [nth_piece(lists, stock, laying, kind, number) for number in range(len(shares))]
                self.assertEqual(told, shares)
                self.assertEqual(refusal_of(lambda: nth_piece(lists, stock, laying, kind, len(shares))), ("number", -1))
                for sort, (width, height, many) in enumerate(stock):
                    for share in product([sort], range(many), range(width // lists[0][kind[0]]),
                                         range(height // lists[1][kind[1]])):
                        expected = shares.index(share) if share in shares else None
                        self.assertEqual(piece_number(lists, stock, laying, kind, share), expected)

    def test_piece_at(self):
        for lists, stock, laying in random_layings(80, 3):
            over = {cell: (*box[:2], *share[2:]) for box in laying for share in shares_in(box)
                    for cell in cells_in(lists, (*box[:3], *[(place, 1) for place in share[1:]]))}
            for sort, (width, height, many) in enumerate(stock):
                for sheet, x, y in product(range(many), range(width), range(height)):
                    self.assertEqual(piece_at(lists, stock, laying, sort, sheet, x, y), over.get((sort, sheet, x, y)))

    def test_large(self):
        lists, stock, laying = striped(300)
        in_box = (THIRTY - 10) * 2 * 10 ** 11
        self.assertEqual(laying_lot(lists, stock, laying), ((0, 1, 300 * in_box),))
        for number in (0, 1, 10 ** 11, 2 * 10 ** 11 - 1, in_box - 1, in_box, 299 * in_box + 17, 300 * in_box - 1):
            share = nth_piece(lists, stock, laying, (0, 1), number)
            box, ahead = divmod(number, in_box)
            sheet, place = divmod(ahead, 2 * 10 ** 11)
            self.assertEqual(share, (0, 7 + sheet, 3 * box + place // 10 ** 11, 5 + place % 10 ** 11))
            self.assertEqual(piece_number(lists, stock, laying, (0, 1), share), number)
            _, sheet, column, row = share
            self.assertEqual(piece_at(lists, stock, laying, 0, sheet, column, 2 * row + 1), (0, 1, column, row))
        self.assertIsNone(piece_number(lists, stock, laying, (0, 1), (0, 6, 0, 5)))
        self.assertIsNone(piece_at(lists, stock, laying, 0, THIRTY - 1, TWELVE - 1, 0))
        self.assertEqual(refusal_of(lambda: nth_piece(lists, stock, laying, (0, 1), 300 * in_box)), ("number", -1))

    def test_refusals(self):
        kind = samples.is_kind(TWO)
        check_refusals(self, laying_lot, GIVEN, LAYING)
        check_refusals(self, nth_piece, {**GIVEN, "kind": (0, 1), "number": 2}, {
            **LAYING, "kind": kind, "number": samples.is_below(4)})
        share = samples.is_tuple_of(4, samples.is_below(2), samples.is_below(9), samples.is_below(9), samples.is_below(9))
        in_stock = {0: (1, 3, 1), 1: (2, 4, 2)}
        check_refusals(self, piece_number, {**GIVEN, "kind": (0, 1), "share": (1, 1, 2, 0)}, {
            **LAYING, "kind": kind, "share": lambda thing: share(thing) and all(
                [number < limit for number, limit in zip(thing[1:], in_stock[thing[0]])])})
        check_refusals(self, piece_at, {**GIVEN, "sort": 1, "sheet": 1, "x": 3, "y": 0}, {
            **LAYING, "sort": samples.is_below(2), "sheet": samples.is_below(2), "x": samples.is_below(4),
            "y": samples.is_below(4)})
        for kind, share in (((1, 0), (0, 0, 1, 0)), ((1, 0), (0, 0, 0, 2)), ((0, 1), (0, 0, 0, 1)), ((0, 1), (0, 0, 3, 0)),
                            ((1, 1), (1, 0, 2, 0)), ((1, 1), (1, 0, 0, 2)), ((0, 0), (0, 1, 0, 0)), ((0, 0), (2, 0, 0, 0))):
            self.assertEqual(refusal_of(lambda: piece_number(TWO, STOCK, LAID, kind, share)), ("share", -1))
        self.assertEqual(refusal_of(lambda: nth_piece(TWO, STOCK, LAID, (1, 1), 0)), ("number", -1))
        self.assertEqual(refusal_of(lambda: piece_at(TWO, STOCK, LAID, 0, 1, 0, 0)), ("sheet", -1))
        self.assertEqual(refusal_of(lambda: piece_at(TWO, STOCK, LAID, 0, 0, 3, 0)), ("x", -1))
        self.assertEqual(refusal_of(lambda: piece_at(TWO, STOCK, LAID, 0, 0, 2, 2)), ("y", -1))
        self.assertEqual(refusal_of(lambda: piece_at(TWO, (), (), 0, 0, 0, 0)), ("sort", -1))

    def test_calls(self):
        check_calls(self, laying_lot, GIVEN)
        check_calls(self, nth_piece, {**GIVEN, "kind": (1, 0), "number": 1})
        check_calls(self, piece_number, {**GIVEN, "kind": (1, 0), "share": (0, 0, 0, 1)})
        check_calls(self, piece_at, {**GIVEN, "sort": 1, "sheet": 0, "x": 2, "y": 1})


if __name__ == "__main__":
    unittest.main()
