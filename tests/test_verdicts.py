"""Points 38 to 40: whether lots go in, staircases that say no, and their checker."""

import unittest

from onesheetmore.errors import InvalidPaper, NotUsable
from onesheetmore.readings import reading, refuses
from onesheetmore.refusalchecker import lets_refusal
from onesheetmore.staircases import is_staircase, own_sizes, staircases_of
from onesheetmore.verdicts import goes_in, refusal, refusal_by_widths, telling_no, tells_no, verdict
from onesheetmore.wholes import whole_ways
from samples import ANY, ODD, ROUND, SIX, STOCK, THIRTY, THREE, TWELVE, TWO, changed, check_calls, check_refusals
from test_rooms import CASES
from test_staircases import WAYS, is_staircase_of
import samples

NINE = ((3, 3, 1),)


class VerdictsTest(unittest.TestCase):
    def test_examples(self):
        self.assertEqual([goes_in(TWO, ((4, 2, 1),), ROUND), goes_in(TWO, NINE, ROUND)], [True, False])
        # Of one step or two, there is just one staircase of each way that refuses here.
        self.assertEqual([refusal(TWO, NINE, ROUND), refusal_by_widths(TWO, NINE, ROUND), refusal(TWO, STOCK, ROUND)],
                         [("heights", (0, 1)), ("widths", (0, 1)), None])
        self.assertEqual([tells_no(TWO, NINE, ((0, 0, 10),), ("heights", (0, 0))),
                          tells_no(TWO, NINE, ROUND, ("heights", (0, 1)))], [True, False])
        self.assertEqual([verdict(TWO, ((4, 2, 1),), ROUND), verdict(TWO, ((3, 2, 1),), ROUND), verdict(TWO, NINE, ROUND)],
                         ["yes", "no", "open"])
        self.assertEqual(verdict(TWO, NINE, ((1, 1, 2),)), "no")

    def test_empty_lot_and_empty_stock(self):
        for lists in (TWO, THREE, SIX):
            for stock in ((), STOCK, ((1, 1, 1),)):
                self.assertIs(goes_in(lists, stock, ()), True)
                self.assertIsNone(refusal(lists, stock, ()))
                self.assertIsNone(refusal_by_widths(lists, stock, ()))
                self.assertEqual(verdict(lists, stock, ()), "yes")
            for lot in (((0, 0, 1),), ROUND, ((1, 1, THIRTY),)):
                self.assertIs(goes_in(lists, (), lot), False)
                self.assertIs(refuses(lists, (), lot, refusal(lists, (), lot)), True)
                self.assertEqual(verdict(lists, (), lot), "no")

    def test_they_are_one(self):
        found = set()
        for lists, stock, lot in CASES:
            goes = goes_in(lists, stock, lot)
            found.add(goes)
            for way, function in (("heights", refusal), ("widths", refusal_by_widths)):
                all_refusing = [one for one in staircases_of(lists, way) if refuses(lists, stock, lot, one)]
                staircase = function(lists, stock, lot)
                self.assertEqual(goes, staircase is None)
                self.assertEqual(goes, all_refusing == [])
                self.assertTrue(staircase is None or staircase in all_refusing)
        self.assertEqual(found, {True, False})

    def test_tells_no(self):
        found = set()
        for lists, stock, lot in CASES:
            telling = []
            for staircase in [one for way in WAYS for one in staircases_of(lists, way)]:
                own = own_sizes(lists, staircase)
                whole = all([whole_ways(own, sort[:2]) != "neither" for sort in stock])
                expected = whole and refuses(lists, stock, lot, staircase)
                self.assertIs(tells_no(lists, stock, lot, staircase), expected)
                telling.extend([staircase] if expected else [])
            told = telling_no(lists, stock, lot)
            self.assertTrue(told in telling if telling else told is None)
            goes = goes_in(lists, stock, lot)
            self.assertEqual(verdict(lists, stock, lot), "yes" if goes else "no" if telling else "open")
            found.add(verdict(lists, stock, lot))
        self.assertEqual(found, {"yes", "no", "open"})

    def test_large(self):
        stock = ((TWELVE, TWELVE, THIRTY),)
        room = (TWELVE // 2) ** 2 * THIRTY
        self.assertIs(goes_in(TWO, stock, ((1, 1, room),)), True)
        self.assertIs(goes_in(TWO, stock, ((1, 1, room + 1),)), False)
        self.assertEqual(verdict(TWO, stock, ((1, 1, room + 1),)), "no")
        self.assertIs(goes_in(TWO, stock, ((0, 0, TWELVE ** 2 * THIRTY - 4 * room), (1, 1, room))), True)
        self.assertIs(goes_in(TWO, stock, ((0, 0, TWELVE ** 2 * THIRTY - 4 * room + 1), (1, 1, room))), False)

    def test_refusals(self):
        for lists in (TWO, THREE):
            given = {"lists": lists, "stock": NINE, "lot": ROUND}
            for function in (goes_in, refusal, refusal_by_widths, telling_no, verdict):
                check_refusals(self, function, given, {"lot": samples.is_lot(lists)})
                check_calls(self, function, given)
            given = {**given, "staircase": ("heights", (0, 1))}
            check_refusals(self, tells_no, given, {"lot": samples.is_lot(lists), "staircase": is_staircase_of(lists)})
            check_calls(self, tells_no, given)


class RefusalCheckerTest(unittest.TestCase):
    def assert_fault(self, call, word, at):
        with self.assertRaises(InvalidPaper) as caught:
            call()
        self.assertEqual((caught.exception.word, caught.exception.at), (word, at))

    def test_examples(self):
        self.assertEqual(lets_refusal(TWO, NINE, ROUND, ("heights", (0, 1))), -1)
        self.assert_fault(lambda: lets_refusal(TWO, NINE, ROUND, ("heights", (1, 0))), "step", 1)
        self.assert_fault(lambda: lets_refusal(TWO, STOCK, ROUND, ("heights", (0, 1))), "last", -1)

    def test_first_fault(self):
        wide = ((1, 2, 4), (1, 2))
        for thing in (None, 0, True, "", (), ("heights",), ("heights", (0,), 0), ["heights", (0,)], "ab", [[]]):
            self.assert_fault(lambda: lets_refusal(wide, NINE, ROUND, thing), "paper", -1)
        for way in (None, 0, True, "", "height", ("heights",), ["heights"], "Heights"):
            self.assert_fault(lambda: lets_refusal(wide, NINE, ROUND, (way, None)), "way", -1)
        for steps in (None, 0, "00", (), [], [0], (0, 0, 0)):
            self.assert_fault(lambda: lets_refusal(wide, NINE, ROUND, ("heights", steps)), "steps", -1)
        for steps in (None, (), [0, 1], (0, 0, 0, 0)):
            self.assert_fault(lambda: lets_refusal(wide, NINE, ROUND, ("widths", steps)), "steps", -1)
        for step in (3, -1, True, False, None, "0", (0,), [0]):
            self.assert_fault(lambda: lets_refusal(wide, NINE, ROUND, ("heights", (step, None))), "step", 0)
            self.assert_fault(lambda: lets_refusal(wide, NINE, ROUND, ("heights", (1, step))), "step", 1)
        self.assert_fault(lambda: lets_refusal(wide, NINE, ROUND, ("heights", (2, 1))), "step", 1)
        self.assert_fault(lambda: lets_refusal(wide, NINE, ROUND, ("widths", (2, 0, 0))), "step", 0)
        self.assert_fault(lambda: lets_refusal(wide, NINE, ROUND, ("widths", (0, 1, 0))), "step", 2)
        self.assert_fault(lambda: lets_refusal(wide, NINE, ROUND, ("widths", (0, 1, 2))), "step", 2)
        self.assert_fault(lambda: lets_refusal(wide, NINE, (), ("widths", (0, 1, 1))), "last", -1)

    def test_against_is_staircase(self):
        for lists, stock, lot in CASES:
            for staircase in [one for way in WAYS for one in staircases_of(lists, way)]:
                last = reading(lists, stock, lot, staircase)[-1]
                if last < 0:
                    self.assertEqual(lets_refusal(lists, stock, lot, staircase), last)
                else:
                    self.assert_fault(lambda: lets_refusal(lists, stock, lot, staircase), "last", -1)
        for thing in ANY + changed(("heights", (0, 1))) + changed(("widths", (1, 1))):
            if not is_staircase(TWO, thing):
                with self.assertRaises(InvalidPaper) as caught:
                    lets_refusal(TWO, NINE, ROUND, thing)
                self.assertNotEqual(caught.exception.word, "last")

    def test_refusals(self):
        given = {"lists": TWO, "stock": NINE, "lot": ROUND, "thing": ("heights", (0, 1))}
        check_refusals(self, lets_refusal, given, {"lot": samples.is_lot(TWO)})
        check_calls(self, lets_refusal, given)
        with self.assertRaises(NotUsable):
            lets_refusal(ODD, NINE, None, None)


if __name__ == "__main__":
    unittest.main()
