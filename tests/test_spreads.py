"""Points 53 to 55: pieces, spreads and overlaps."""

import random
import unittest

from onesheetmore.errors import InvalidPaper
from onesheetmore.overlaps import first_overlap, overlaps_of
from onesheetmore.spreadchecker import lets_spread
from onesheetmore.spreadkinds import is_piece, is_spread
from layingsamples import lot_of_pieces
from samples import ANY, ODD, STOCK, THIRTY, THREE, TWELVE, TWO, changed, check_calls, check_refusals
from spreadsamples import (
    FLOORS, FOUR, HALF, NINE, TWENTY, WHEEL, do_overlap, is_piece_of, is_piece_tuple, is_spread_of, is_within, long_row,
    random_spreads, some_piece)


def loose_pieces(many, seed):
    """So many (lists, stock, tuple of pieces); some of the pieces may overlap, some may stand outside."""
    rng = random.Random(seed)
    for _ in range(many):
        lists, stock = rng.choice(FLOORS)
        pieces = [some_piece(lists, stock, rng) for _ in range(rng.randint(0, 5))]
        pieces = [piece for piece in pieces if piece is not None]
        if pieces and rng.random() < 0.3:
            at = rng.randrange(len(pieces))
            a, b, sort, sheet, x, y = pieces[at]
            pieces[at] = rng.choice([(a, b, sort + 1, sheet, x, y), (a, b, sort, sheet + 1, x, y),
                                     (a, b, sort, sheet, (x[0] + 2 * x[1], x[1]), y),
                                     (a, b, sort, sheet, x, (y[0] + y[1], y[1]))])
        yield lists, stock, tuple(pieces)


class SpreadKindsTest(unittest.TestCase):
    def test_examples(self):
        self.assertEqual([is_piece(TWO, (1, 0, 9, 9, (1, 2), (0, 1))), is_piece(TWO, (1, 0, 0, 0, 1, 0))], [True, False])

    def test_pieces(self):
        things = ANY + [other for piece in WHEEL + HALF for other in changed(piece)] + list(WHEEL + HALF)
        things += [(1, 0, 0, 0, place, (0, 1)) for place in ((2, 4), (0, 2), (-1, 2), (1, -2), (1, 0), (True, 1), (1, True),
                                                             (TWENTY, 10 ** 20), (10 ** 60, 1), (0, 1), (3, 2))]
        found = set()
        for thing in things:
            for lists in (TWO, THREE, ODD, ((1,), (1,))):
                expected = is_piece_of(lists)(thing)
                found.add(expected)
                self.assertIs(is_piece(lists, thing), expected, thing)
                self.assertIs(is_spread(lists, (thing,)), expected)
                self.assertIs(is_spread(lists, [thing]), False)
        self.assertEqual(found, {True, False})
        self.assertIs(is_piece(TWO, (1, 0, 10 ** 59, 10 ** 59, (1, 2), (0, 1))), True)
        self.assertIs(is_piece(TWO, (2, 0, 0, 0, (1, 2), (0, 1))), False)

    def test_spreads(self):
        for thing in ANY + [HALF, WHEEL, HALF + HALF, list(HALF), (HALF,)] + changed(HALF):
            self.assertIs(is_spread(TWO, thing), is_piece_tuple(TWO)(thing), thing)
        self.assertIs(is_spread(TWO, ()), True)
        self.assertIs(is_spread(TWO, HALF + HALF), True)
        check_calls(self, is_piece, {"lists": TWO, "thing": HALF[0]})
        check_calls(self, is_spread, {"lists": TWO, "thing": HALF})


class OverlapsTest(unittest.TestCase):
    def test_examples(self):
        self.assertEqual([overlaps_of(TWO, HALF + HALF), first_overlap(TWO, WHEEL)], [((2, 0), (3, 1)), None])

    def test_against_fractions(self):
        seen = 0
        for lists, _, pieces in list(loose_pieces(400, 20)) + random_spreads(50, 21):
            expected = [(i, k) for i in range(len(pieces)) for k in range(i) if do_overlap(lists, pieces[i], pieces[k])]
            self.assertEqual(overlaps_of(lists, pieces), tuple(expected))
            self.assertEqual(first_overlap(lists, pieces), expected[0] if expected else None)
            seen += len(expected) > 1
        self.assertGreater(seen, 20)

    def test_borders_and_sheets(self):
        one = (1, 1, 0, 0, (1, 3), (1, 3))
        for other, overlap in (((1, 1, 0, 0, (7, 3), (0, 1)), False), ((1, 1, 0, 0, (2, 1), (0, 1)), True),
                               ((1, 1, 0, 0, (7 * TWENTY, 3 * TWENTY + 1), (0, 1)), True),
                               ((1, 1, 0, 0, (0, 1), (7, 3)), False), ((1, 1, 0, 0, (0, 1), (2, 1)), True),
                               ((1, 1, 1, 0, (1, 3), (1, 3)), False), ((1, 1, 0, 1, (1, 3), (1, 3)), False),
                               ((0, 0, 0, 0, (1, 1), (1, 1)), True)):
            self.assertEqual(first_overlap(TWO, (one, other)), (1, 0) if overlap else None)
            self.assertEqual(overlaps_of(TWO, (other, one)), ((1, 0),) if overlap else ())
        self.assertEqual([overlaps_of(TWO, ()), first_overlap(TWO, ())], [(), None])
        self.assertEqual(overlaps_of(TWO, (one, one, one)), ((1, 0), (2, 0), (2, 1)))

    def test_refusals(self):
        for function in (first_overlap, overlaps_of):
            check_refusals(self, function, {"lists": TWO, "spread": HALF}, {"spread": is_piece_tuple(TWO)})
            check_calls(self, function, {"lists": TWO, "spread": HALF + WHEEL})


class SpreadCheckerTest(unittest.TestCase):
    def assert_fault(self, thing, word, at, lists=TWO, stock=NINE):
        before = repr(thing)
        with self.assertRaises(InvalidPaper) as caught:
            lets_spread(lists, stock, thing)
        self.assertEqual((caught.exception.word, caught.exception.at), (word, at), thing)
        self.assertEqual(repr(thing), before)

    def test_examples(self):
        self.assertEqual(lets_spread(TWO, NINE, WHEEL), ((0, 1, 2), (1, 0, 2)))
        self.assert_fault(WHEEL, "inside", 2, stock=STOCK)

    def test_first_fault(self):
        good, outside = WHEEL[0], (1, 0, 0, 0, (3, 2), (0, 1))
        for thing in (None, 0, True, "", [], list(WHEEL), [()]):
            self.assert_fault(thing, "spread", -1)
        for thing in [None, (), 0, "", list(good)] + [other for other in changed(good) if not is_piece_of(TWO)(other)]:
            self.assert_fault((thing,), "piece", 0)
            self.assert_fault((good, good, thing, outside), "piece", 2)
            self.assert_fault((outside, thing), "inside", 0)
        for thing in (outside, (1, 0, 1, 0, (0, 1), (0, 1)), (1, 0, 0, 1, (0, 1), (0, 1)), (1, 0, 0, 0, (0, 1), (3, 1)),
                      (1, 0, 10 ** 59, 0, (0, 1), (0, 1)), (1, 0, 0, 0, (TWENTY + 1, TWENTY), (0, 1))):
            self.assert_fault((thing,), "inside", 0)
            self.assert_fault((good, good, thing, None), "inside", 2)
        self.assert_fault((good,), "inside", 0, stock=())
        self.assert_fault((*WHEEL, WHEEL[3], WHEEL[1]), "overlap", (4, 3))
        self.assert_fault((WHEEL[2], good, *WHEEL), "overlap", (2, 1))
        self.assert_fault((good, good, good), "overlap", (1, 0))

    def test_against_fractions(self):
        found = set()
        for lists, stock, pieces in list(loose_pieces(500, 22)) + random_spreads(50, 23):
            outside = [i for i, piece in enumerate(pieces) if not is_within(lists, stock, piece)]
            pairs = overlaps_of(lists, pieces)
            found.add((outside == [], pairs == ()))
            if outside:
                self.assert_fault(pieces, "inside", outside[0], lists, stock)
            elif pairs:
                self.assert_fault(pieces, "overlap", pairs[0], lists, stock)
            else:
                self.assertEqual(lets_spread(lists, stock, pieces), lot_of_pieces(pieces))
        self.assertEqual(len(found), 4)

    def test_any_value(self):
        for thing in ANY + changed(WHEEL) + changed(HALF):
            if is_spread_of(TWO, NINE)(thing):
                self.assertEqual(lets_spread(TWO, NINE, thing), lot_of_pieces(thing))
            else:
                with self.assertRaises(InvalidPaper):
                    lets_spread(TWO, NINE, thing)

    def test_large(self):
        lists, stock, spread = long_row(60)
        self.assertEqual(len(spread), 60)
        self.assertEqual(lets_spread(lists, stock, spread), ((1, 0, len(spread)),))
        edge = (1, 1, 0, THIRTY - 1, (TWELVE - 2, 1), (TWELVE - 2, 1))
        self.assertEqual(lets_spread(lists, stock, (*spread, edge)), ((1, 0, len(spread)), (1, 1, 1)))
        beyond = (1, 1, 0, THIRTY - 1, ((TWELVE - 2) * TWENTY + 1, TWENTY), (TWELVE - 2, 1))
        self.assert_fault((*spread, beyond), "inside", len(spread), lists, stock)
        self.assertEqual([lets_spread(TWO, NINE, ()), lets_spread(TWO, (), ())], [(), ()])
        check_calls(self, lets_spread, {"lists": TWO, "stock": NINE, "thing": WHEEL})
        check_calls(self, lets_spread, {"lists": TWO, "stock": FOUR, "thing": HALF})


if __name__ == "__main__":
    unittest.main()
