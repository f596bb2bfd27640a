"""Point 56: pieces pushed left and down."""

import unittest
from fractions import Fraction

from onesheetmore.listforms import turned_lists
from onesheetmore.pushing import pushed, pushed_down, pushed_left
from samples import TWO, check_calls, check_refusals
from spreadsamples import (
    HALF, NINE, WHEEL, are_apart, ground_of_piece, is_apart_tuple, is_spread_of, long_row, random_spreads)


def turned(spread):
    return tuple([(b, a, sort, sheet, y, x) for a, b, sort, sheet, x, y in spread])


def slid(lists, spread):
    """The words of point 56, with fractions."""
    grounds = [ground_of_piece(lists, piece) for piece in spread]
    ends, places = {}, {}
    for i in sorted(range(len(spread)), key=lambda i: (Fraction(*spread[i][4]), i)):
        _, bottom, _, top = grounds[i]
        x = Fraction(0)
        for k in ends:
            if spread[k][2:4] == spread[i][2:4] and min(top, grounds[k][3]) > max(bottom, grounds[k][1]):
                x = max(x, ends[k])
        places[i], ends[i] = x, x + lists[0][spread[i][0]]
    return tuple([(*piece[:4], (places[i].numerator, places[i].denominator), piece[5]) for i, piece in enumerate(spread)])


class PushingTest(unittest.TestCase):
    def test_example(self):
        self.assertEqual(pushed(TWO, HALF), ((1, 0, 0, 0, (0, 1), (0, 1)), (1, 0, 0, 0, (0, 1), (1, 1))))

    def test_against_fractions(self):
        seen = 0
        for lists, _, spread in random_spreads(200, 30):
            left, down = slid(lists, spread), turned(slid(turned_lists(lists), turned(spread)))
            self.assertEqual(pushed_left(lists, spread), left)
            self.assertEqual(pushed_down(lists, spread), down)
            self.assertEqual(pushed(lists, spread), turned(slid(turned_lists(lists), turned(left))))
            seen += left != spread and down != spread
        self.assertGreater(seen, 60)

    def test_consequences(self):
        for lists, stock, spread in random_spreads(200, 31):
            for function in (pushed_left, pushed_down, pushed):
                told = function(lists, spread)
                self.assertTrue(is_spread_of(lists, stock)(told))
                self.assertEqual([piece[:4] for piece in told], [piece[:4] for piece in spread])
                for piece, old in zip(told, spread):
                    self.assertLessEqual(Fraction(*piece[4]), Fraction(*old[4]))
                    self.assertLessEqual(Fraction(*piece[5]), Fraction(*old[5]))
                    if function != pushed_down:
                        self.assertEqual((piece[4][1], piece[4][0] % lists[0][0]), (1, 0))
                    if function != pushed_left:
                        self.assertEqual((piece[5][1], piece[5][0] % lists[1][0]), (1, 0))
            self.assertEqual(pushed_left(lists, pushed_left(lists, spread)), pushed_left(lists, spread))
            self.assertEqual(pushed_down(lists, pushed_down(lists, spread)), pushed_down(lists, spread))

    def test_sequence_and_sheets(self):
        one, other = (0, 0, 5, 10 ** 30, (7, 2), (1, 2)), (0, 0, 5, 10 ** 30, (3, 2), (1, 1))
        self.assertEqual(pushed_left(TWO, (one, other)),
                         ((0, 0, 5, 10 ** 30, (1, 1), (1, 2)), (0, 0, 5, 10 ** 30, (0, 1), (1, 1))))
        self.assertEqual(pushed_down(TWO, (one, other)),
                         ((0, 0, 5, 10 ** 30, (7, 2), (0, 1)), (0, 0, 5, 10 ** 30, (3, 2), (0, 1))))
        apart = (one, (0, 0, 5, 0, (3, 2), (1, 1)), (0, 0, 4, 10 ** 30, (3, 2), (1, 1)))
        self.assertEqual([piece[4] for piece in pushed_left(TWO, apart)], [(0, 1)] * 3)
        # Only a border in common: neither holds the other one.
        touching = (one, (0, 0, 5, 10 ** 30, (3, 2), (3, 2)))
        self.assertEqual([piece[4] for piece in pushed_left(TWO, touching)], [(0, 1), (0, 1)])
        for function in (pushed_left, pushed_down, pushed):
            self.assertEqual(function(TWO, ()), ())
            self.assertEqual(function(TWO, WHEEL), WHEEL)

    def test_large(self):
        lists, stock, spread = long_row(60)
        told = pushed_left(lists, spread)
        self.assertEqual([piece[4] for piece in told], [(2 * i, 1) for i in range(len(spread))])
        self.assertTrue(is_spread_of(lists, stock)(pushed(lists, spread)))

    def test_refusals(self):
        for function in (pushed_left, pushed_down, pushed):
            check_refusals(self, function, {"lists": TWO, "spread": WHEEL}, {"spread": is_apart_tuple(TWO)})
            check_refusals(self, function, {"lists": TWO, "spread": HALF}, {"spread": is_apart_tuple(TWO)})
            check_calls(self, function, {"lists": TWO, "spread": HALF})
        self.assertFalse(are_apart(TWO, HALF + HALF))
        self.assertTrue(is_spread_of(TWO, NINE)(WHEEL))


if __name__ == "__main__":
    unittest.main()
