"""Points 9 and 37: the readings of staircases."""

import unittest
from fractions import Fraction
from math import floor

from onesheetmore.listforms import turned_lists, turned_lot, turned_stock
from onesheetmore.readings import reading, refuses
from onesheetmore.rooms import rooms_by_heights
from onesheetmore.staircases import staircases_of
from samples import ODD, ROUND, SIX, STOCK, THIRTY, THREE, TWELVE, TWO, check_calls, check_refusals
from test_rooms import CASES
from test_staircases import WAYS, is_staircase_of
import samples


def read_by_heights(lists, stock, lot, steps):
    """The numbers of point 9, with fractions."""
    widths, heights = lists
    numbers = []
    for at, i in enumerate(steps):
        b = len(heights) - 1 - at
        number = 0
        for width, height, many in stock:
            rest = height if at == 0 else height % heights[b + 1]
            number += many * (rest // heights[b]) * (width // widths[i])
        number -= sum([many * Fraction(widths[a], widths[i]) for a, high, many in lot if high == b and a >= i])
        if at:
            held = floor(Fraction(numbers[-1] * widths[steps[at - 1]], widths[i]))
            number += held * Fraction(heights[b + 1], heights[b])
        numbers.append(number)
    return tuple(numbers)


class ReadingsTest(unittest.TestCase):
    def test_examples(self):
        sheet = ((3, 3, 1),)
        self.assertEqual([reading(TWO, sheet, ROUND, ("heights", (0, 1))), refuses(TWO, sheet, ROUND, ("heights", (0, 1)))],
                         [(1, -1), True])
        self.assertEqual([reading(TWO, STOCK, ROUND, ("widths", (0, 1))),
                          reading(ODD, ((5, 5, 1),), ((0, 1, 1),), ("heights", (0, 1)))], [(16, 15), (4, 5)])

    def test_against_the_definition(self):
        found = set()
        for lists, stock, lot in CASES:
            for way in WAYS:
                turned = (turned_lists(lists), turned_stock(stock), turned_lot(lists, lot))
                given = (lists, stock, lot) if way == "heights" else turned
                for staircase in staircases_of(lists, way):
                    expected = read_by_heights(*given, staircase[1])
                    numbers = reading(lists, stock, lot, staircase)
                    self.assertEqual(numbers, expected)
                    self.assertTrue(all([type(number) is int for number in numbers]))
                    self.assertIs(refuses(lists, stock, lot, staircase), expected[-1] < 0)
                    found.add(expected[-1] < 0)
                    other = ("widths" if way == "heights" else "heights", staircase[1])
                    self.assertEqual(reading(*turned, other), numbers)
        self.assertEqual(found, {True, False})

    def test_last_numbers_are_at_least_the_rooms_less_the_wants(self):
        for lists, stock, lot in CASES:
            least = {}
            for staircase in staircases_of(lists, "heights"):
                last = reading(lists, stock, lot, staircase)[-1]
                spot = (len(lists[1]) - len(staircase[1]), staircase[1][-1])
                least[spot] = min(last, least.get(spot, last))
            for b, (rooms, wants, _) in enumerate(rooms_by_heights(lists, stock, lot)):
                for i, (room, want) in enumerate(zip(rooms, wants)):
                    self.assertEqual(least[b, i], room - want)

    def test_edges(self):
        self.assertEqual(reading(TWO, (), (), ("heights", (0,))), (0,))
        self.assertIs(refuses(TWO, (), (), ("heights", (0, 0))), False)
        self.assertEqual(reading(TWO, (), ((0, 1, 3),), ("heights", (0, 1))), (-3, -4))
        self.assertEqual(reading(SIX, ((TWELVE, 144, THIRTY),), ((0, 5, 1),), ("heights", (0, 0)))[0], TWELVE * THIRTY - 1)

    def test_refusals(self):
        for lists in (TWO, THREE):
            given = {"lists": lists, "stock": STOCK, "lot": ROUND, "staircase": ("heights", (0, 1))}
            for function in (reading, refuses):
                check_refusals(self, function, given, {
                    "lot": samples.is_lot(lists), "staircase": is_staircase_of(lists)})
                check_calls(self, function, given)


if __name__ == "__main__":
    unittest.main()
