"""Points 41 and 42: further pieces and sheets; what is said of one lot and stock."""

import unittest

from onesheetmore.errors import NotUsable, Refused
from onesheetmore.further import leading_sheets, most_more, spare_sheets
from onesheetmore.lots import lot_plus
from onesheetmore.roomclasses import Rooms
from onesheetmore.rooms import rooms_by_heights, rooms_by_widths
from onesheetmore.readings import refuses
from onesheetmore.stocks import first_sheets_of, sheets_in
from onesheetmore.verdicts import goes_in, refusal, verdict
from samples import (
    ANY, ODD, ROUND, STOCK, THIRTY, THREE, TWELVE, TWO, all_kinds, check_calls, check_refusals, read_no_error,
    refusal_of)
from test_rooms import CASES
import samples

NINE = ((3, 3, 1),)
MORE_CASES = CASES + [
    (TWO, ((3, 3, 2), (1, 1, 5), (3, 3, 1)), ((0, 0, 3), (0, 1, 3))), (THREE, ((7, 5, 2), (3, 9, 1)), ((1, 1, 2),)),
    (ODD, ((4, 4, 1), (5, 5, 2), (4, 4, 1)), ((0, 1, 2), (1, 0, 2), (1, 1, 1)))]


class FurtherTest(unittest.TestCase):
    def test_examples(self):
        self.assertEqual([most_more(TWO, STOCK, ROUND, 1, 1), most_more(TWO, NINE, ((0, 1, 2),), 1, 0)], [7, 1])
        with self.assertRaises(Refused) as caught:
            most_more(TWO, NINE, ROUND, 0, 0)
        self.assertEqual(caught.exception.staircase, ("heights", (0, 1)))
        self.assertEqual([leading_sheets(TWO, STOCK, ROUND), spare_sheets(TWO, STOCK, ROUND),
                          leading_sheets(TWO, STOCK, ((1, 1, 10),))], [2, 1, None])

    def test_most_more(self):
        for lists, stock, lot in MORE_CASES:
            by_heights, by_widths = rooms_by_heights(lists, stock, lot), rooms_by_widths(lists, stock, lot)
            for a, b in all_kinds(lists):
                if not goes_in(lists, stock, lot):
                    with self.assertRaises(Refused) as caught:
                        most_more(lists, stock, lot, a, b)
                    self.assertEqual(caught.exception.staircase[0], "heights")
                    self.assertTrue(refuses(lists, stock, lot, caught.exception.staircase))
                    continue
                most = most_more(lists, stock, lot, a, b)
                for many in (1, most // 2, most, most + 1, 2 * most + 5):
                    if many >= 1:
                        self.assertIs(goes_in(lists, stock, lot_plus(lists, lot, ((a, b, many),))), many <= most)
                if not [1 for _, high, _ in lot if high < b]:
                    self.assertEqual(most, by_heights[b][2][a])
                if not [1 for wide, _, _ in lot if wide < a]:
                    self.assertEqual(most, by_widths[a][2][b])
                self.assertLessEqual(most, min(by_heights[b][2][a], by_widths[a][2][b]))

    def test_most_more_edges(self):
        self.assertEqual([most_more(TWO, (), (), a, b) for a, b in all_kinds(TWO)], [0, 0, 0, 0])
        self.assertEqual(most_more(TWO, ((1, 1, 5),), (), 1, 0), 0)
        self.assertEqual(most_more(TWO, ((TWELVE, TWELVE, THIRTY),), (), 0, 0), TWELVE ** 2 * THIRTY)
        self.assertEqual(most_more(THREE, ((4, 4, 1),), ((2, 2, 1),), 0, 0), 0)

    def test_leading_sheets(self):
        found = set()
        for lists, stock, lot in MORE_CASES:
            leading = leading_sheets(lists, stock, lot)
            found.add(leading is None)
            if not goes_in(lists, stock, lot):
                self.assertEqual((leading, spare_sheets(lists, stock, lot)), (None, None))
                continue
            self.assertTrue(goes_in(lists, first_sheets_of(stock, leading), lot))
            self.assertFalse(leading > 0 and goes_in(lists, first_sheets_of(stock, leading - 1), lot))
            self.assertEqual(leading + spare_sheets(lists, stock, lot), sheets_in(stock))
        self.assertEqual(found, {True, False})

    def test_leading_sheets_edges(self):
        self.assertEqual([leading_sheets(TWO, (), ()), spare_sheets(TWO, (), ())], [0, 0])
        self.assertEqual([leading_sheets(TWO, STOCK, ()), spare_sheets(TWO, STOCK, ())], [0, 3])
        self.assertEqual([leading_sheets(TWO, (), ROUND), spare_sheets(TWO, (), ROUND)], [None, None])
        stock = ((1, 1, 2), (2, 2, 1), (1, 1, 2), (2, 2, THIRTY))
        self.assertEqual(leading_sheets(TWO, stock, ((0, 0, 3),)), 3)
        self.assertEqual(leading_sheets(TWO, stock, ((0, 0, 1), (1, 1, 1))), 3)
        self.assertEqual(leading_sheets(TWO, stock, ((1, 1, 2),)), 6)
        self.assertEqual(leading_sheets(TWO, stock, ((1, 1, 10 ** 29),)), 4 + 10 ** 29)
        self.assertEqual(spare_sheets(TWO, stock, ((1, 1, THIRTY + 1),)), 0)
        self.assertIsNone(leading_sheets(TWO, stock, ((1, 1, THIRTY + 2),)))

    def test_refusals(self):
        lot = samples.is_lot(TWO)
        given = {"lists": TWO, "stock": STOCK, "lot": ROUND, "a": 1, "b": 0}
        check_refusals(self, most_more, given, {"lot": lot, "a": samples.is_below(2), "b": samples.is_below(2)})
        check_calls(self, most_more, given)
        for function in (leading_sheets, spare_sheets):
            check_refusals(self, function, {"lists": TWO, "stock": STOCK, "lot": ROUND}, {"lot": lot})
            check_calls(self, function, {"lists": TWO, "stock": STOCK, "lot": ROUND})

    def test_parameters_ahead_of_refused(self):
        for thing in (None, True, 2, -1, "0"):
            self.assertEqual(refusal_of(lambda: most_more(TWO, NINE, ROUND, thing, None)), ("a", -1))
            self.assertEqual(refusal_of(lambda: most_more(TWO, NINE, ROUND, 0, thing)), ("b", -1))


class RoomsClassTest(unittest.TestCase):
    def test_examples(self):
        one = Rooms(TWO, STOCK, ROUND)
        self.assertEqual(
            [one.goes(), one.verdict(), one.more(1, 1), one.with_lot(()).more(1, 1), one.with_stock(NINE).refusal()],
            [True, "yes", 7, 9, ("heights", (0, 1))])

    def assert_same(self, one, lists, stock, lot):
        self.assertEqual(one.by_heights(), rooms_by_heights(lists, stock, lot))
        self.assertEqual(one.by_widths(), rooms_by_widths(lists, stock, lot))
        self.assertIs(one.goes(), goes_in(lists, stock, lot))
        self.assertEqual(one.refusal(), refusal(lists, stock, lot))
        self.assertEqual(one.verdict(), verdict(lists, stock, lot))
        for a, b in all_kinds(lists):
            told = read_no_error(lambda: one.more(a, b))
            expected = read_no_error(lambda: most_more(lists, stock, lot, a, b))
            if isinstance(expected, Refused):
                self.assertEqual((type(told), told.staircase), (Refused, expected.staircase))
            else:
                self.assertEqual(told, expected)

    def test_as_the_functions(self):
        for lists, stock, lot in MORE_CASES:
            one = Rooms(lists, stock, lot)
            self.assert_same(one, lists, stock, lot)
            other = one.with_lot(((0, 0, 4),))
            self.assertIsInstance(other, Rooms)
            self.assert_same(other, lists, stock, ((0, 0, 4),))
            self.assert_same(one.with_stock(NINE), lists, NINE, lot)
            self.assert_same(one.with_lot(()).with_stock(()), lists, (), ())
            self.assert_same(one, lists, stock, lot)

    def test_refusals(self):
        check_refusals(self, Rooms, {"lists": TWO, "stock": STOCK, "lot": ROUND}, {"lot": samples.is_lot(TWO)})
        one = Rooms(TWO, NINE, ROUND)
        check_refusals(self, one.with_lot, {"lot": ROUND}, {"lot": samples.is_lot(TWO)})
        check_refusals(self, one.with_stock, {"stock": STOCK}, {"stock": samples.is_stock})
        check_refusals(self, one.with_lot(()).more, {"a": 1, "b": 0}, {"a": samples.is_below(2), "b": samples.is_below(2)})
        for thing in ANY:
            if not samples.is_below(2)(thing):
                self.assertEqual(refusal_of(lambda: one.more(thing, thing)), ("a", -1))
                with self.assertRaises(NotUsable):
                    one.more(b=thing, a=0)
        self.assert_same(one, TWO, NINE, ROUND)


if __name__ == "__main__":
    unittest.main()
