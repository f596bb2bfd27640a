"""Points 58, 59 and 62: spreads laid anew, layings as spreads, places left free, the class of spreads."""

import random
import unittest
from fractions import Fraction
from itertools import product

from onesheetmore.anew import laid_anew, spread_of
from onesheetmore.errors import NotUsable, NotWhole, Unfit
from onesheetmore.openings import clear_across, clear_up, free_place
from onesheetmore.pushing import pushed
from onesheetmore.spreadclasses import Spread
from onesheetmore.wholes import whole_ways
from layingsamples import LAID, is_laying_of, lot_of_pieces, pieces_of, random_layings
from samples import (
    ANY, STOCK, THIRTY, THREE, TWELVE, TWO, all_kinds, check_calls, check_refusals, read_no_error, refusal_of)
from spreadsamples import (
    FOUR, HALF, NINE, WHEEL, as_quotient, ground_of_piece, is_place, is_spread_of, long_row, lot_on, random_spreads)
from test_boxes import shares_in
import samples


class LaidAnewTest(unittest.TestCase):
    def test_examples(self):
        self.assertEqual(spread_of(TWO, FOUR, ((1, 0, 0, (0, 1), (0, 1), (0, 2)),)),
                         ((1, 0, 0, 0, (0, 1), (0, 1)), (1, 0, 0, 0, (0, 1), (1, 1))))
        with self.assertRaises(NotWhole) as caught:
            laid_anew(TWO, NINE, WHEEL)
        self.assertEqual(caught.exception.index, 0)

    def test_laid_anew(self):
        found = set()
        for lists, stock, spread in random_spreads(400, 50):
            uneven = [piece[2] for piece in spread if whole_ways(lists, stock[piece[2]][:2]) == "neither"]
            found.add((uneven == [], len(spread) > 5))
            if uneven:
                with self.assertRaises(NotWhole) as caught:
                    laid_anew(lists, stock, spread)
                self.assertEqual(caught.exception.index, uneven[0])
                continue
            laying = laid_anew(lists, stock, spread)
            self.assertTrue(is_laying_of(lists, stock)(laying))
            for sort, (_, _, many) in enumerate(stock):
                for sheet in range(many):
                    here = [piece for piece in pieces_of(laying) if piece[2:4] == (sort, sheet)]
                    self.assertEqual(lot_of_pieces(here), lot_on(spread, sort, sheet))
        self.assertEqual(len(found), 4)

    def test_first_uneven_piece(self):
        stock = ((4, 4, 1), (3, 3, 1), (2, 2, 1), (5, 3, 1))
        spread = tuple([(0, 0, sort, 0, (1, 2), (0, 1)) for sort in (2, 3, 0, 1)])
        with self.assertRaises(NotWhole) as caught:
            laid_anew(TWO, stock, spread)
        self.assertEqual(caught.exception.index, 3)
        self.assertEqual(pieces_of(laid_anew(TWO, stock, ())), set())
        self.assertEqual(len(pieces_of(laid_anew(TWO, stock, (spread[0], spread[2])))), 2)

    def test_laid_anew_large(self):
        lists, _, spread = long_row(60)
        stock = ((TWELVE - 1, TWELVE, THIRTY),)
        laying = laid_anew(lists, stock, spread)
        self.assertEqual(lot_of_pieces(pieces_of(laying)), ((1, 0, 60),))
        self.assertEqual({piece[2:4] for piece in pieces_of(laying)}, {(0, THIRTY - 1)})

    def test_spread_of(self):
        for lists, stock, laying in random_layings(200, 51):
            if len(pieces_of(laying)) <= 60:
                spread = spread_of(lists, stock, laying)
                expected = [(*box[:2], sort, sheet, (column * lists[0][box[0]], 1), (row * lists[1][box[1]], 1))
                            for box in laying for sort, sheet, column, row in shares_in(box)]
                self.assertEqual(spread, tuple(expected))
                self.assertTrue(is_spread_of(lists, stock)(spread))
        large = ((1, 1, 0, (THIRTY - 1, 1), (TWELVE // 2 - 6, 6), (0, 10)),)
        spread = spread_of(TWO, ((TWELVE, TWELVE, THIRTY),), large)
        self.assertEqual((len(spread), spread[-1]), (60, (1, 1, 0, THIRTY - 1, (TWELVE - 3, 1), (18, 1))))
        self.assertEqual(spread_of(TWO, (), ()), ())

    def test_refusals(self):
        given = {"lists": TWO, "stock": FOUR, "spread": HALF}
        check_refusals(self, laid_anew, given, {"spread": is_spread_of(TWO, FOUR)})
        check_calls(self, laid_anew, given)
        given = {"lists": TWO, "stock": STOCK, "laying": LAID}
        check_refusals(self, spread_of, given, {"laying": is_laying_of(TWO, STOCK)})
        check_calls(self, spread_of, given)


def has_place(lists, stock, spread, a, b):
    """True if a piece has a place, tried at all sixths of a unit: the spread's own places are some of these."""
    for sort, (width, height, many) in enumerate(stock):
        for sheet in range(many):
            taken = [ground_of_piece(lists, piece) for piece in spread if piece[2:4] == (sort, sheet)]
            taken = [[int(6 * place) for place in ground] for ground in taken]
            wide, high = 6 * lists[0][a], 6 * lists[1][b]
            for x, y in product(range(6 * width - wide + 1), range(6 * height - high + 1)):
                if not any([x < right and left < x + wide and y < top and bottom < y + high
                            for left, bottom, right, top in taken]):
                    return True
    return False


class OpeningsTest(unittest.TestCase):
    def test_examples(self):
        self.assertEqual([free_place(TWO, NINE, WHEEL, 0, 0), free_place(TWO, NINE, WHEEL, 1, 0)],
                         [(0, 0, (1, 1), (1, 1)), None])
        self.assertEqual([clear_across(TWO, FOUR, HALF, 0, 0), clear_up(TWO, FOUR, HALF, 0, 0)],
                         [(), (((0, 1), (1, 2)), ((5, 2), (4, 1)))])

    def test_free_place(self):
        found = set()
        for lists, stock, spread in random_spreads(150, 52):
            for a, b in all_kinds(lists):
                place = free_place(lists, stock, spread, a, b)
                found.add(place is None)
                if place is None:
                    self.assertFalse(has_place(lists, stock, spread, a, b), (lists, stock, spread, a, b))
                else:
                    self.assertIs(type(place), tuple)
                    self.assertTrue(is_spread_of(lists, stock)((*spread, (a, b, *place))), (spread, place))
        self.assertEqual(found, {True, False})

    def test_free_place_at_fractions(self):
        # The one place for a further piece is between pieces that stand at thirds.
        spread = ((0, 1, 0, 0, (1, 3), (0, 1)), (0, 1, 0, 0, (10, 3), (0, 1)))
        self.assertEqual(free_place(TWO, ((5, 2, 1),), spread, 1, 1), (0, 0, (4, 3), (0, 1)))
        narrow = ((0, 1, 0, 0, (1, 3), (0, 1)), (0, 1, 0, 0, (10, 3), (0, 1)), (0, 0, 0, 0, (2, 1), (1, 2)))
        self.assertIsNone(free_place(TWO, ((5, 2, 1),), narrow, 1, 0))
        self.assertEqual(free_place(TWO, ((1, 1, 1), (2, 2, 1)), (), 1, 1)[:2], (1, 0))
        self.assertIsNone(free_place(TWO, ((1, 2, 5), (9, 1, 5)), (), 1, 1))
        self.assertIsNone(free_place(TWO, (), (), 0, 0))

    def test_free_place_large(self):
        lists, stock, spread = long_row(60)
        place = free_place(lists, stock, spread, 1, 1)
        self.assertTrue(is_spread_of(lists, stock)((*spread, (1, 1, *place))))
        full = ((1, 1, 0, 1, (0, 1), (0, 1)), (1, 1, 0, 0, (0, 1), (0, 1)))
        self.assertEqual(free_place(TWO, ((2, 2, 3),), full, 0, 0)[:2], (0, 2))
        self.assertIsNone(free_place(TWO, ((2, 2, 2),), full, 0, 0))
        self.assertIsNotNone(free_place(TWO, ((2, 2, THIRTY),), full, 0, 0))

    def test_clear_stretches(self):
        for lists, stock, spread in random_spreads(200, 53):
            for sort, (width, height, many) in enumerate(stock):
                for sheet in range(many):
                    grounds = [ground_of_piece(lists, piece) for piece in spread if piece[2:4] == (sort, sheet)]
                    for function, side, at in ((clear_up, width, 0), (clear_across, height, 1)):
                        ends = sorted({Fraction(0), Fraction(side), *[ground[k] for ground in grounds
                                                                      for k in (at, at + 2)]})
                        clear = []
                        for start, end in zip(ends, ends[1:]):
                            if not any([ground[at] < end and start < ground[at + 2] for ground in grounds]):
                                joined = clear and clear[-1][1] == as_quotient(start)
                                first = clear.pop()[0] if joined else as_quotient(start)
                                clear.append((first, as_quotient(end)))
                        self.assertEqual(function(lists, stock, spread, sort, sheet), tuple(clear))

    def test_clear_sheets(self):
        self.assertEqual(clear_across(TWO, STOCK, (), 0, 0), (((0, 1), (2, 1)),))
        self.assertEqual(clear_up(TWO, STOCK, (), 0, 0), (((0, 1), (3, 1)),))
        self.assertEqual([clear_across(TWO, NINE, WHEEL, 0, 0), clear_up(TWO, NINE, WHEEL, 0, 0)], [(), ()])
        lists, stock, spread = long_row(60)
        self.assertEqual(len(clear_up(lists, stock, spread, 0, THIRTY - 1)), 61)
        self.assertEqual(clear_up(lists, stock, spread, 0, 0), (((0, 1), (TWELVE, 1)),))

    def test_refusals(self):
        given = {"lists": TWO, "stock": FOUR, "spread": HALF}
        spread = {"spread": is_spread_of(TWO, FOUR)}
        check_refusals(self, free_place, {**given, "a": 1, "b": 0}, {
            **spread, "a": samples.is_below(2), "b": samples.is_below(2)})
        check_calls(self, free_place, {**given, "a": 1, "b": 0})
        for function in (clear_across, clear_up):
            check_refusals(self, function, {**given, "sort": 0, "sheet": 0}, {
                **spread, "sort": samples.is_below(1), "sheet": samples.is_below(1)})
            check_calls(self, function, {**given, "sort": 0, "sheet": 0})


class SpreadClassTest(unittest.TestCase):
    def test_example(self):
        half = Spread(TWO, FOUR, HALF)
        self.assertEqual([len(half), half.lot_of_it(), half.shifted(0, (2, 1), (0, 1)).entries()[0]],
                         [2, ((1, 0, 2),), (1, 0, 0, 0, (2, 1), (0, 1))])

    def test_methods(self):
        for lists, stock, spread in random_spreads(150, 54):
            one = Spread(lists, stock, spread)
            self.assertEqual([one.entries(), len(one), one.lot_of_it()], [spread, len(spread), lot_of_pieces(spread)])
            self.assertIsInstance(one.pushed(), Spread)
            self.assertEqual(one.pushed().entries(), pushed(lists, spread))
            for a, b in all_kinds(lists):
                self.assertEqual(one.room_for(a, b), free_place(lists, stock, spread, a, b))
            told, expected = read_no_error(one.anew), read_no_error(lambda: laid_anew(lists, stock, spread))
            if isinstance(expected, NotWhole):
                self.assertEqual((type(told), told.index), (NotWhole, expected.index))
            else:
                self.assertEqual(told, expected)
            self.assertEqual(one.entries(), spread)

    def test_equal(self):
        rng = random.Random(55)
        for lists, stock, spread in random_spreads(100, 56):
            other = list(spread)
            rng.shuffle(other)
            one = Spread(lists, stock, spread)
            self.assertIs(one == Spread(lists, stock, tuple(other)), True)
            self.assertIs(one != Spread(lists, stock, tuple(other)), False)
            if spread:
                self.assertIs(one == Spread(lists, stock, spread[1:]), False)
                self.assertIs(one == one.pushed(), sorted(spread) == sorted(pushed(lists, spread)))
        half = Spread(TWO, FOUR, HALF)
        for other in ANY + [HALF, Spread, Spread(THREE, FOUR, HALF), Spread(TWO, ((4, 2, 2),), HALF),
                            Spread(TWO, FOUR, HALF[:1]), Spread(TWO, FOUR, ())]:
            self.assertIs(half == other, False)
            self.assertIs(half != other, True)

    def test_shifted(self):
        rng = random.Random(57)
        found = set()
        for lists, stock, spread in random_spreads(200, 58):
            one = Spread(lists, stock, spread)
            for number, piece in enumerate(spread):
                x, y = [as_quotient(Fraction(rng.randint(0, 20), rng.choice([1, 2, 3, 4]))) for _ in range(2)]
                x, y = rng.choice([(x, y), (x, piece[5]), (piece[4], y), (piece[4], piece[5])])
                moved = (*spread[:number], (*piece[:4], x, y), *spread[number + 1:])
                fits = is_spread_of(lists, stock)(moved)
                found.add(fits)
                if fits:
                    told = one.shifted(number, x, y)
                    self.assertIsInstance(told, Spread)
                    self.assertEqual(told.entries(), moved)
                else:
                    with self.assertRaises(Unfit) as caught:
                        one.shifted(number=number, x=x, y=y)
                    self.assertEqual(caught.exception.kind, piece[:2])
                self.assertIs(one.entries(), spread)
        self.assertEqual(found, {True, False})

    def test_refusals(self):
        check_refusals(self, Spread, {"lists": TWO, "stock": NINE, "pieces": WHEEL}, {"pieces": is_spread_of(TWO, NINE)})
        one = Spread(lists=TWO, stock=NINE, pieces=WHEEL)
        check_refusals(self, one.shifted, {"number": 1, "x": (2, 1), "y": (0, 1)}, {
            "number": samples.is_below(4), "x": is_place, "y": is_place})
        check_refusals(self, one.room_for, {"a": 1, "b": 0}, {"a": samples.is_below(2), "b": samples.is_below(2)})
        self.assertEqual(refusal_of(lambda: one.shifted(4, (0, 1), (0, 1))), ("number", -1))
        self.assertEqual(refusal_of(lambda: Spread(TWO, (), ()).shifted(0, (0, 1), (0, 1))), ("number", -1))
        self.assertEqual(one.entries(), WHEEL)
        with self.assertRaises(NotUsable):
            Spread(TWO, NINE, HALF + HALF)


if __name__ == "__main__":
    unittest.main()
