"""Point 57 and (G5): lines through sheets with spreads, and what stays free on them."""

import random
import unittest
from fractions import Fraction
from math import floor

from onesheetmore.rooms import rooms_by_heights
from onesheetmore.spreadlines import class_gaps, gaps_on, met_by
from onesheetmore.wholes import is_whole_across, is_whole_up, useful_height, useful_width
from samples import STOCK, THIRTY, TWELVE, TWO, check_calls, check_refusals, refusal_of
from spreadsamples import (
    FOUR, HALF, NINE, TWENTY, WHEEL, as_quotient, ground_of_piece, is_spread_of, long_row, lot_on, random_spreads)
import samples

GIVEN = {"lists": TWO, "stock": NINE, "spread": WHEEL, "sort": 0, "sheet": 0}
TESTS = {"spread": is_spread_of(TWO, NINE), "sort": samples.is_below(1), "sheet": samples.is_below(1)}


def met(lists, spread, sort, sheet, y):
    """(left, index) of the pieces met, by x."""
    grounds = [ground_of_piece(lists, piece) for piece in spread]
    return sorted([(ground[0], i) for i, ground in enumerate(grounds)
                   if spread[i][2:4] == (sort, sheet) and ground[1] <= y < ground[3]])


def gaps(lists, stock, spread, sort, sheet, y, b):
    free, start = [], Fraction(0)
    for left, i in met(lists, spread, sort, sheet, y):
        if spread[i][1] > b:
            free.append(left - start)
            start = left + lists[0][spread[i][0]]
    free.append(stock[sort][0] - start)
    return tuple([sum([floor(gap / width) for gap in free]) for width in lists[0]])


def lines_of(lists, stock, sort, y, b, rest):
    """All lines of a class."""
    low = lists[1][0]
    many = useful_height(lists, stock[sort][:2]) // low
    return [y + k * low for k in range(many) if k % (lists[1][b] // low) == rest]


def some_y(lists, height, rng):
    """A place that class_gaps takes."""
    above = height % lists[1][0] if height >= lists[1][0] else height
    parts = rng.choice([2, 3, 4, 6, 7])
    return above + Fraction(rng.randint(1, (lists[1][0] - above) * parts - 1), parts)


def classes_of(lists, stock, spread, rng):
    """(sort, sheet, y, b, rest) of some classes of lines of each sheet."""
    for sort, (_, height, many) in enumerate(stock):
        for sheet in range(many):
            for b in [b for b, size in enumerate(lists[1]) if size <= height]:
                yield sort, sheet, some_y(lists, height, rng), b, rng.randrange(lists[1][b] // lists[1][0])


class SpreadLinesTest(unittest.TestCase):
    def test_examples(self):
        self.assertEqual([met_by(TWO, NINE, WHEEL, 0, 0, (1, 1)), gaps_on(TWO, NINE, WHEEL, 0, 0, (1, 1), 0)],
                         [(3, 1), (1, 0)])
        self.assertEqual(class_gaps(TWO, NINE, WHEEL, 0, 0, (1, 2), 0, 0), (3, (5, 2)))

    def test_lines(self):
        rng = random.Random(40)
        found = set()
        for lists, stock, spread in random_spreads(150, 41):
            for sort, (_, height, many) in enumerate(stock):
                for sheet in range(many):
                    ends = [place for piece in spread for place in ground_of_piece(lists, piece)[1::2]]
                    for y in ends + [Fraction(rng.randint(-6, 6 * height + 6), rng.choice([1, 2, 3, 6])) for _ in range(5)]:
                        told = met_by(lists, stock, spread, sort, sheet, as_quotient(y))
                        self.assertEqual(told, tuple([i for _, i in met(lists, spread, sort, sheet, y)]))
                        found.add(len(told))
                        for b in range(len(lists[1])):
                            self.assertEqual(gaps_on(lists, stock, spread, sort, sheet, as_quotient(y), b),
                                             gaps(lists, stock, spread, sort, sheet, y, b))
        self.assertGreater(len(found), 3)

    def test_lines_outside(self):
        for y in ((-1, 2), (3, 1), (10 ** 59, 7), (-(10 ** 59), 7)):
            self.assertEqual(met_by(TWO, NINE, WHEEL, 0, 0, y), ())
            self.assertEqual(gaps_on(TWO, NINE, WHEEL, 0, 0, y, 0), (3, 1))

    def test_classes(self):
        rng = random.Random(42)
        for lists, stock, spread in random_spreads(150, 43):
            for sort, sheet, y, b, rest in classes_of(lists, stock, spread, rng):
                lines = lines_of(lists, stock, sort, y, b, rest)
                sums = [sum([gaps(lists, stock, spread, sort, sheet, line, b)[i] for line in lines])
                        for i in range(len(lists[0]))]
                told = class_gaps(lists, stock, spread, sort, sheet, as_quotient(y), b, rest)
                self.assertEqual(told, (len(lines), tuple(sums)), (lists, stock, spread, sort, sheet, y, b, rest))

    def test_each_piece_is_met_once(self):
        rng = random.Random(44)
        for lists, stock, spread in random_spreads(150, 45):
            for sort, sheet, y, b, rest in classes_of(lists, stock, spread, rng):
                lines = lines_of(lists, stock, sort, y, b, rest)
                times = [met_by(lists, stock, spread, sort, sheet, as_quotient(line)) for line in lines]
                for i, piece in enumerate(spread):
                    if piece[1:4] == (b, sort, sheet):
                        self.assertEqual(len([one for one in times if i in one]), 1)

    def test_what_is_free_is_at_most_the_rooms(self):
        rng = random.Random(46)
        found = set()
        for lists, stock, spread in random_spreads(400, 47):
            for sort, sheet, y, b, rest in classes_of(lists, stock, spread, rng):
                width, height, _ = stock[sort]
                lines, sums = class_gaps(lists, stock, spread, sort, sheet, as_quotient(y), b, rest)
                rooms = rooms_by_heights(lists, ((width, height, 1),), lot_on(spread, sort, sheet))[b][0]
                if is_whole_up(lists, (width, height)):
                    self.assertTrue(all([free <= room for free, room in zip(sums, rooms)]))
                    found.add("up")
                if is_whole_across(lists, (width, height)):
                    further = lines - height // lists[1][b]
                    self.assertIn(further, (0, 1))
                    self.assertTrue(further == 0 or rest + 1 < lists[1][b] // lists[1][0])
                    found.add(("across", further))
                    for size, free, room in zip(lists[0], sums, rooms):
                        if size <= width:
                            self.assertLessEqual(free, room + further * useful_width(lists, (width, height)) // size)
        self.assertEqual(found, {"up", ("across", 0), ("across", 1)})

    def test_large(self):
        lists, stock, spread = long_row(60)
        lines, sums = class_gaps(lists, stock, spread, 0, THIRTY - 1, (1, TWENTY), 1, 1)
        self.assertEqual((lines, sums), (TWELVE // 2, (TWELVE // 2 * TWELVE, TWELVE // 2 * (TWELVE // 2))))
        tall = ((0, 1, 0, THIRTY - 1, (1, 2), (TWENTY, 2)), (1, 1, 0, THIRTY - 1, (2, 1), (TWENTY + 1, 3)))
        stock = ((TWELVE, TWELVE, THIRTY),)
        spread = tuple([(a, b, sort, sheet, x, (TWELVE // 2, 1)) for a, b, sort, sheet, x, _ in tall])
        self.assertEqual(class_gaps(TWO, stock, spread, 0, THIRTY - 1, (1, 3), 0, 0),
                         (TWELVE, (TWELVE ** 2 - 2 * 4, TWELVE * (TWELVE // 2) - 2 * 2)))
        self.assertEqual(class_gaps(TWO, stock, spread, 0, 0, (1, 3), 0, 0)[1], (TWELVE ** 2, TWELVE * (TWELVE // 2)))

    def test_refusals(self):
        check_refusals(self, met_by, {**GIVEN, "y": (1, 1)}, {**TESTS, "y": samples.is_quotient})
        check_refusals(self, gaps_on, {**GIVEN, "y": (1, 1), "b": 0}, {
            **TESTS, "y": samples.is_quotient, "b": samples.is_below(2)})
        check_refusals(self, class_gaps, {**GIVEN, "y": (1, 2), "b": 1, "rest": 1}, {
            **TESTS, "y": lambda thing: samples.is_quotient(thing) and 0 < Fraction(*thing) < 1,
            "b": samples.is_below(2), "rest": samples.is_below(2)})
        check_calls(self, met_by, {**GIVEN, "y": (1, 1)})
        check_calls(self, gaps_on, {**GIVEN, "y": (1, 1), "b": 0})
        check_calls(self, class_gaps, {**GIVEN, "y": (1, 2), "b": 1, "rest": 1})

    def test_what_a_class_asks(self):
        lists, stock = ((2, 4), (3, 6)), ((7, 10, 2), (3, 5, 1), (3, 2, 1))
        for y in ((1, 1), (3, 1), (1, 2), (0, 1), (7, 2), (-2, 1)):
            self.assertEqual(refusal_of(lambda: class_gaps(lists, stock, (), 0, 1, y, 0, 0)), ("y", -1))
        for y in ((2, 1), (3, 2), (TWENTY + 1, TWENTY), (3 * TWENTY - 1, TWENTY)):
            self.assertEqual(class_gaps(lists, stock, (), 0, 1, y, 0, 0), (3, (9, 3)))
            self.assertEqual(class_gaps(lists, stock, (), 0, 1, y, 1, 1), (1, (3, 1)))
        self.assertEqual(refusal_of(lambda: class_gaps(lists, stock, (), 1, 0, (5, 2), 1, 0)), ("b", -1))
        self.assertEqual(refusal_of(lambda: class_gaps(lists, stock, (), 1, 0, (2, 1), 0, 0)), ("y", -1))
        self.assertEqual(refusal_of(lambda: class_gaps(lists, stock, (), 1, 0, (5, 2), 0, 1)), ("rest", -1))
        self.assertEqual(refusal_of(lambda: class_gaps(lists, stock, (), 2, 0, (2, 1), 0, 0)), ("y", -1))
        self.assertEqual(refusal_of(lambda: class_gaps(lists, stock, (), 2, 0, (5, 2), 0, 0)), ("b", -1))
        self.assertEqual(refusal_of(lambda: met_by(TWO, STOCK, (), 0, 1, (0, 1))), ("sheet", -1))
        self.assertEqual(refusal_of(lambda: met_by(TWO, (), (), 0, 0, (0, 1))), ("sort", -1))
        self.assertEqual(class_gaps(TWO, FOUR, HALF, 0, 0, (1, 2), 0, 0), (2, (8, 4)))


if __name__ == "__main__":
    unittest.main()
