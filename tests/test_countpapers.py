"""Points 70 and 71: papers that show what the fewest sheets are, and their checker."""

import unittest

from onesheetmore.countchecker import lets_fewest
from onesheetmore.countpapers import fewest_paper
from onesheetmore.errors import InvalidPaper, NotUsable, NotWhole
from onesheetmore.fewest import fewest
from onesheetmore.layingchecker import lets_laying
from onesheetmore.layings import lay_by_widths
from onesheetmore.readings import refuses
from onesheetmore.staircases import is_staircase, staircases_of
from onesheetmore.wholes import whole_ways
from countsamples import LARGE, PAIR, counted_cases, is_sheet_roomy, stock_of
from layingsamples import is_laying_of
from samples import ANY, ROUND, THIRTY, TWELVE, TWO, changed, check_calls, check_refusals
from test_staircases import WAYS, is_staircase_of
import samples

BOXES = ((1, 0, 0, (0, 1), (0, 1), (0, 1)), (0, 1, 0, (0, 1), (2, 1), (0, 1)))
GOOD = (1, BOXES, ("heights", (0, 1)))


class CountPapersTest(unittest.TestCase):
    def test_examples(self):
        self.assertEqual(fewest_paper(TWO, (), (2, 2)), (0, (), None))
        self.assertEqual(lets_fewest(TWO, PAIR, (3, 2), GOOD), 1)
        self.assert_fault((1, BOXES, ("heights", (1,))), "refuses")

    def assert_fault(self, thing, word, lot=PAIR, sheet=(3, 2)):
        before = repr(thing)
        with self.assertRaises(InvalidPaper) as caught:
            lets_fewest(TWO, lot, sheet, thing)
        self.assertEqual((caught.exception.word, caught.exception.at), (word, -1), thing)
        self.assertEqual(repr(thing), before)

    def test_papers(self):
        found = set()
        for lists, lot, sheet in counted_cases(200, 95):
            found.add((lot == (), whole_ways(lists, sheet)))
            if whole_ways(lists, sheet) == "neither":
                for call in (lambda: fewest_paper(lists, lot, sheet), lambda: lets_fewest(lists, lot, sheet, None)):
                    with self.assertRaises(NotWhole) as caught:
                        call()
                    self.assertEqual(caught.exception.index, 0)
                continue
            paper = fewest_paper(lists, lot, sheet)
            self.assertIs(type(paper), tuple)
            number, laying, staircase = paper
            self.assertEqual(number, fewest(lists, lot, sheet))
            self.assertEqual(lets_laying(lists, stock_of(sheet, number), laying), lot)
            self.assertLessEqual(len(laying), 300)
            if number == 0:
                self.assertEqual(paper, (0, (), None))
            else:
                self.assertTrue(is_staircase(lists, staircase))
                self.assertTrue(refuses(lists, stock_of(sheet, number - 1), lot, staircase))
            self.assertEqual(lets_fewest(lists, lot, sheet, paper), number)
        self.assertLessEqual({(False, "up"), (False, "across"), (False, "both"), (False, "neither"), (True, "both")}, found)

    def test_large(self):
        for lists, lot, sheet in (LARGE, (TWO, ((0, 1, THIRTY), (1, 0, 7), (1, 1, THIRTY)), (TWELVE, 2))):
            paper = fewest_paper(lists, lot, sheet)
            self.assertLessEqual(len(paper[1]), 300)
            self.assertEqual(lets_fewest(lists, lot, sheet, paper), paper[0])
            number, laying, staircase = paper
            with self.assertRaises(InvalidPaper) as caught:
                lets_fewest(lists, lot, sheet, (number + 1, laying, staircase))
            self.assertEqual(caught.exception.word, "refuses")

    def test_other_papers_that_are_let(self):
        for lists, lot, sheet in counted_cases(60, 96):
            if whole_ways(lists, sheet) != "neither" and lot != () and len(lists[0]) < 5:
                number, _, _ = fewest_paper(lists, lot, sheet)
                laying = lay_by_widths(lists, stock_of(sheet, number), lot)
                for staircase in [one for way in WAYS for one in staircases_of(lists, way)][::4]:
                    if refuses(lists, stock_of(sheet, number - 1), lot, staircase):
                        self.assertEqual(lets_fewest(lists, lot, sheet, (number, laying, staircase)), number)
                    else:
                        with self.assertRaises(InvalidPaper) as caught:
                            lets_fewest(lists, lot, sheet, (number, laying, staircase))
                        self.assertEqual(caught.exception.word, "refuses")

    def test_first_fault(self):
        for thing in (None, 0, "", (), [], GOOD[:2], GOOD + (0,), list(GOOD), "abc"):
            self.assert_fault(thing, "paper")
        for number in (None, True, -1, "1", (1,), [1]):
            self.assert_fault((number, None, None), "number")
        for laying in (None, 0, [], list(BOXES), BOXES + BOXES, (BOXES,), BOXES[:1] + (None,),
                       ((1, 0, 0, (0, 2), (0, 1), (0, 1)),), ((1, 0, 1, (0, 1), (0, 1), (0, 1)),)):
            self.assert_fault((1, laying, None), "laying")
        self.assert_fault((0, BOXES, None), "laying")
        self.assert_fault((1, ((0, 0, 0, (1, 1), (0, 1), (0, 1)),), None), "laying")
        for laying in ((), BOXES[:1], BOXES + ((0, 0, 0, (0, 1), (0, 1), (1, 1)),)):
            self.assert_fault((1, laying, None), "lot")
        self.assert_fault((0, (), ("heights", (0,))), "lot")
        self.assert_fault((1, BOXES, None), "lot", lot=ROUND)
        for staircase in (None, 0, (), ["heights", (0, 1)], ("heights", ()), ("heights", (1, 0)), ("heights", (2,)),
                          ("depths", (0,)), ("widths", (0, 0, 0)), ("heights", (True,)), ("heights", [0])):
            self.assert_fault((1, BOXES, staircase), "staircase")
        for staircase in (0, False, (), ("heights", (0,)), "None"):
            self.assert_fault((0, (), staircase), "staircase", lot=())
        self.assert_fault((1, (), ("heights", (0, 0))), "refuses", lot=())
        self.assert_fault((1, (), None), "staircase", lot=())
        self.assert_fault((10 ** 59, BOXES, ("heights", (0, 1))), "refuses")
        self.assertEqual(lets_fewest(TWO, (), (3, 2), (0, (), None)), 0)

    def test_any_value(self):
        for thing in ANY + changed(GOOD):
            told = None
            try:
                told = lets_fewest(TWO, PAIR, (3, 2), thing)
            except InvalidPaper as error:
                self.assertEqual(error.at, -1)
            if told is not None:
                self.assertEqual((told, thing[0]), (1, 1))
                self.assertTrue(is_laying_of(TWO, ((3, 2, 1),))(thing[1]) and is_staircase_of(TWO)(thing[2]))
                self.assertTrue(refuses(TWO, (), PAIR, thing[2]))

    def test_refusals(self):
        tests = {"lot": samples.is_lot(TWO), "sheet": is_sheet_roomy(TWO)}
        given = {"lists": TWO, "lot": PAIR, "sheet": (3, 2)}
        check_refusals(self, fewest_paper, given, tests)
        check_calls(self, fewest_paper, given)
        check_refusals(self, lets_fewest, {**given, "thing": GOOD}, tests)
        check_calls(self, lets_fewest, {**given, "thing": GOOD})
        with self.assertRaises(NotUsable):
            lets_fewest(TWO, PAIR, (1, 9), None)
        with self.assertRaises(NotWhole):
            lets_fewest(TWO, PAIR, (3, 3), None)


if __name__ == "__main__":
    unittest.main()
