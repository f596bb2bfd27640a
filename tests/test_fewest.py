"""Points 63 to 66 and (G6): roundings, fewest sheets, least rolls."""

import random
import unittest
from fractions import Fraction
from math import ceil

from onesheetmore.errors import NotUsable, NotWhole, Unfit
from onesheetmore.fewest import fewest, fewest_in_shares, telling_staircase
from onesheetmore.rolls import least_roll, roll_staircase
from onesheetmore.roundings import roll_by, rounding, sheets_by
from onesheetmore.staircases import is_staircase, staircases_of
from onesheetmore.verdicts import goes_in
from onesheetmore.wholes import whole_ways
from countsamples import DEAR, LARGE, LISTS, area_of, counted_cases, is_sheet_roomy, random_lot, stock_of
from samples import (
    ODD, ROUND, SIX, THIRTY, THREE, TWELVE, TWO, check_calls, check_refusals, read_no_error, refusal_of)
from test_search import as_lot, counts_beside, is_told, lots_of
from test_staircases import WAYS, is_staircase_of
import samples


def definition(lists, lot, staircase):
    """The words of point 64 by heights, with fractions."""
    way, steps = staircase
    widths, heights = lists if way == "heights" else lists[::-1]
    pieces = [entry if way == "heights" else (entry[1], entry[0], entry[2]) for entry in lot]

    def wants(b, i):
        return sum([many * Fraction(widths[a], widths[i]) for a, high, many in pieces if high == b and a >= i])
    numbers = []
    for at in range(len(steps) - 1, -1, -1):
        b = len(heights) - 1 - at
        number = wants(b, steps[at])
        if numbers:
            number += Fraction(widths[steps[at + 1]], widths[steps[at]]) * ceil(numbers[-1] / (heights[b] // heights[b - 1]))
        numbers.append(number)
    return tuple(numbers)


def every_staircase(lists):
    return [one for way in WAYS for one in staircases_of(lists, way)]


class RoundingsTest(unittest.TestCase):
    def test_examples(self):
        self.assertEqual([rounding(TWO, DEAR, ("heights", (0, 1))), rounding(TWO, DEAR, ("widths", (0, 1)))],
                         [(3, 5), (1, 5)])
        self.assertEqual([sheets_by(TWO, DEAR, (4, 2), ("heights", (0, 1))), roll_by(TWO, DEAR, 4, ("widths", (0, 1)))],
                         [2, 3])

    def test_rounding(self):
        for lists, lot, _ in counted_cases(60, 70):
            for staircase in every_staircase(lists)[::7]:
                told = rounding(lists, lot, staircase)
                self.assertEqual(told, definition(lists, lot, staircase))
                self.assertEqual([type(number) for number in told], [int] * len(staircase[1]))

    def test_sheets_by(self):
        found = set()
        for lists, lot, (width, height) in counted_cases(150, 71):
            ways = whole_ways(lists, (width, height))
            for way, steps in every_staircase(lists)[::5]:
                if way == "heights":
                    shares, is_whole = (height // lists[1][-1]) * (width // lists[0][steps[0]]), ways in ("both", "up")
                else:
                    shares, is_whole = (width // lists[0][-1]) * (height // lists[1][steps[0]]), ways in ("both", "across")
                told = read_no_error(lambda: sheets_by(lists, lot, (width, height), (way, steps)))
                found.add((way, is_whole))
                if is_whole:
                    self.assertEqual(told, ceil(definition(lists, lot, (way, steps))[-1] / shares))
                else:
                    self.assertEqual((type(told), told.index), (NotWhole, 0))
        self.assertEqual(len(found), 4)

    def test_roll_by(self):
        found = set()
        for lists, lot, (width, _) in counted_cases(150, 72):
            for staircase in list(staircases_of(lists, "widths"))[::5]:
                told = read_no_error(lambda: roll_by(lists, lot, width, staircase))
                is_whole = (width - width % lists[0][0]) % lists[0][-1] == 0
                found.add(is_whole)
                if is_whole:
                    many = ceil(definition(lists, lot, staircase)[-1] / (width // lists[0][-1]))
                    self.assertEqual(told, many * lists[1][staircase[1][0]])
                else:
                    self.assertEqual((type(told), told.index), (NotWhole, 0))
        self.assertEqual(found, {True, False})

    def test_not_usable_comes_first(self):
        for given in ((None, (3, 3), ("heights", (0,))), (ROUND, (1, 3), ("heights", (0,))), (ROUND, (3, 3), ("heights", ()))):
            with self.assertRaises(NotUsable):
                sheets_by(TWO, *given)
        with self.assertRaises(NotWhole):
            sheets_by(TWO, ROUND, (3, 3), ("heights", (0,)))
        self.assertEqual(refusal_of(lambda: roll_by(TWO, ROUND, 3, ("heights", (0,)))), ("staircase", -1))
        with self.assertRaises(NotWhole):
            roll_by(TWO, ROUND, 3, ("widths", (0,)))

    def test_refusals(self):
        lot, staircase = {"lot": samples.is_lot(TWO)}, {"staircase": is_staircase_of(TWO)}
        given = {"lists": TWO, "lot": DEAR, "staircase": ("heights", (0, 1))}
        check_refusals(self, rounding, given, {**lot, **staircase})
        check_calls(self, rounding, given)
        given = {"lists": TWO, "lot": DEAR, "sheet": (4, 2), "staircase": ("heights", (0, 1))}
        check_refusals(self, sheets_by, given, {**lot, "sheet": is_sheet_roomy(TWO), **staircase})
        check_calls(self, sheets_by, given)
        given = {"lists": TWO, "lot": DEAR, "width": 4, "staircase": ("widths", (0, 1))}
        check_refusals(self, roll_by, given, {
            **lot, "width": lambda thing: samples.is_number(thing) and thing >= 2,
            "staircase": lambda thing: is_staircase_of(TWO)(thing) and thing[0] == "widths"})
        check_calls(self, roll_by, given)


class FewestTest(unittest.TestCase):
    def test_examples(self):
        self.assertEqual([fewest(TWO, ROUND, (3, 2)), fewest_in_shares(TWO, ROUND, (3, 3)), fewest(TWO, (), (2, 2))],
                         [2, 2, 0])
        with self.assertRaises(NotWhole) as caught:
            fewest(TWO, ROUND, (3, 3))
        self.assertEqual(caught.exception.index, 0)
        with self.assertRaises(Unfit) as caught:
            fewest_in_shares(TWO, ROUND, (1, 5))
        self.assertEqual(caught.exception.kind, (1, 0))

    def test_fewest(self):
        found = set()
        for lists, lot, sheet in counted_cases(300, 73):
            ways = whole_ways(lists, sheet)
            found.add(ways)
            many = fewest_in_shares(lists, lot, sheet)
            self.assertTrue(goes_in(lists, stock_of(sheet, many), lot))
            self.assertTrue(many == 0 or not goes_in(lists, stock_of(sheet, many - 1), lot))
            if ways == "neither":
                for function in (fewest, telling_staircase):
                    with self.assertRaises(NotWhole) as caught:
                        function(lists, lot, sheet)
                    self.assertEqual(caught.exception.index, 0)
                continue
            self.assertEqual(fewest(lists, lot, sheet), many)
            staircase = telling_staircase(lists, lot, sheet)
            self.assertTrue(is_staircase(lists, staircase))
            self.assertEqual(sheets_by(lists, lot, sheet, staircase), many)
            for way, whole in (("heights", ("up", "both")), ("widths", ("across", "both"))):
                if ways in whole and lists != SIX:
                    asked = [sheets_by(lists, lot, sheet, one) for one in staircases_of(lists, way)]
                    self.assertEqual(max(asked), many)
        self.assertEqual(len(found), 4)

    def test_beside_spreads(self):
        flat = ((1, 2, 4), (1, 2))
        for lists, sheet in ((TWO, (2, 2)), (TWO, (3, 2)), (TWO, (2, 3)), (flat, (4, 2))):
            most = [lots_of(lists, [sheet] * many, False) for many in range(3)]
            for counts in list(counts_beside(lists, most[2]))[::3]:
                fitting = [many for many in range(3) if is_told(most[many], counts)]
                told = fewest(lists, as_lot(lists, counts), sheet)
                self.assertEqual(told if told < 3 else 3, fitting[0] if fitting else 3)

    def test_unfit(self):
        rng = random.Random(74)
        seen = 0
        for _ in range(300):
            lists = rng.choice(LISTS[:8])
            lot = random_lot(lists, rng)
            sheet = (rng.randint(1, 2 * lists[0][-1]), rng.randint(1, 2 * lists[1][-1]))
            unfit = [(a, b) for a, b, _ in lot if lists[0][a] > sheet[0] or lists[1][b] > sheet[1]]
            told = read_no_error(lambda: fewest_in_shares(lists, lot, sheet))
            if unfit:
                self.assertEqual((type(told), told.kind), (Unfit, unfit[0]))
                seen += 1
            else:
                self.assertTrue(goes_in(lists, stock_of(sheet, told), lot))
                self.assertTrue(told == 0 or not goes_in(lists, stock_of(sheet, told - 1), lot))
        self.assertGreater(seen, 50)
        self.assertEqual(fewest_in_shares(TWO, (), (1, 1)), 0)

    def test_large(self):
        self.assertEqual(fewest(TWO, ((1, 1, THIRTY),), (TWELVE, TWELVE - 1)), -(-THIRTY // (TWELVE // 2) ** 2))
        lists, lot, sheet = LARGE
        many = fewest(lists, lot, sheet)
        self.assertTrue(goes_in(lists, stock_of(sheet, many), lot))
        self.assertFalse(goes_in(lists, stock_of(sheet, many - 1), lot))
        self.assertEqual(sheets_by(lists, lot, sheet, telling_staircase(lists, lot, sheet)), many)

    def test_refusals(self):
        given = {"lists": TWO, "lot": ROUND, "sheet": (3, 2)}
        for function in (fewest, telling_staircase):
            check_refusals(self, function, given, {"lot": samples.is_lot(TWO), "sheet": is_sheet_roomy(TWO)})
            check_calls(self, function, given)
            for sheet in ((1, 5), (5, 1), (1, 1), (0, 9)):
                self.assertEqual(refusal_of(lambda: function(TWO, ROUND, sheet)), ("sheet", -1))
        check_refusals(self, fewest_in_shares, given, {"lot": samples.is_lot(TWO), "sheet": samples.is_sheet})
        check_calls(self, fewest_in_shares, given)
        self.assertEqual(refusal_of(lambda: fewest_in_shares(TWO, ROUND, (0, 5))), ("sheet", -1))


class RollsTest(unittest.TestCase):
    def test_examples(self):
        self.assertEqual([least_roll(TWO, DEAR, 4), least_roll(TWO, ROUND, 2), least_roll(TWO, (), 2)], [3, 4, 0])

    def test_least_roll(self):
        found = set()
        for lists, lot, (width, _) in counted_cases(250, 75):
            useful = width - width % lists[0][0]
            found.add(useful % lists[0][-1] == 0)
            if useful % lists[0][-1] != 0:
                for function in (least_roll, roll_staircase):
                    with self.assertRaises(NotWhole) as caught:
                        function(lists, lot, width)
                    self.assertEqual(caught.exception.index, 0)
                continue
            length = least_roll(lists, lot, width)
            self.assertEqual(length % lists[1][0], 0)
            self.assertTrue(goes_in(lists, stock_of((width, length), min(length, 1)), lot))
            if length > 0:
                self.assertFalse(goes_in(lists, stock_of((width, length - 1), min(length - 1, 1)), lot))
                area = Fraction(area_of(lists, lot), useful)
                self.assertTrue(area <= length < area + max([lists[1][b] for _, b, _ in lot]))
            self.assertEqual(length == 0, lot == ())
            staircase = roll_staircase(lists, lot, width)
            self.assertTrue(is_staircase(lists, staircase) and staircase[0] == "widths")
            self.assertEqual(roll_by(lists, lot, width, staircase), length)
            if lists != SIX:
                self.assertEqual(max([roll_by(lists, lot, width, one) for one in staircases_of(lists, "widths")]), length)
        self.assertEqual(found, {True, False})

    def test_beside_spreads(self):
        for lists, width in ((TWO, 2), (ODD, 3)):
            most = [lots_of(lists, [(width, length)] if length else [], False) for length in range(6)]
            for counts in list(counts_beside(lists, most[5]))[::3]:
                fitting = [length for length in range(6) if is_told(most[length], counts)]
                told = least_roll(lists, as_lot(lists, counts), width)
                self.assertEqual(told if told < 6 else 6, fitting[0] if fitting else 6)

    def test_large(self):
        self.assertEqual(least_roll(TWO, ((1, 1, THIRTY),), TWELVE - 1), -(-THIRTY // (TWELVE // 2)) * 2)
        self.assertEqual(least_roll(((5,), (7,)), ((0, 0, 11),), 14), 42)

    def test_refusals(self):
        for function in (least_roll, roll_staircase):
            given = {"lists": TWO, "lot": DEAR, "width": 4}
            check_refusals(self, function, given, {
                "lot": samples.is_lot(TWO), "width": lambda thing: samples.is_number(thing) and thing >= 2})
            check_calls(self, function, given)
            self.assertEqual(refusal_of(lambda: function(THREE, ROUND, 3)), ("width", -1))
            self.assertEqual(refusal_of(lambda: function(THREE, None, 5)), ("lot", -1))


if __name__ == "__main__":
    unittest.main()
