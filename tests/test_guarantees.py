"""Point 11 over the whole program: what one part says holds for what another part lays, reads or accepts."""

import random
import unittest

from onesheetmore.anew import laid_anew, spread_of
from onesheetmore.answers import answer
from onesheetmore.chainrooms import chain_goes
from onesheetmore.desks import Desk
from onesheetmore.diarychecker import lets_diary
from onesheetmore.errors import InvalidPaper
from onesheetmore.fewest import fewest, fewest_in_shares
from onesheetmore.kindsets import first_crossing
from onesheetmore.layingchecker import lets_laying
from onesheetmore.linechecker import lets_line_refusal
from onesheetmore.linerooms import fewest_by_lines, line_refusal
from onesheetmore.listforms import used_lists
from onesheetmore.lots import area_of, lot_times
from onesheetmore.planchecker import lets_plan
from onesheetmore.plans import cuts_in, parts_of, plan_of
from onesheetmore.refusalchecker import lets_refusal
from onesheetmore.spreadchecker import lets_spread
from onesheetmore.staircases import staircases_of
from onesheetmore.twosizes import two_goes, wheel_helps
from onesheetmore.verdicts import goes_in, telling_no, verdict
from onesheetmore.wheels import wheel_lot, wheel_refusal, wheel_spread
from onesheetmore.wholes import is_whole_across, is_whole_stock, whole_ways
from countsamples import counted_cases, stock_of
from diarysamples import random_diaries
from plansamples import random_plans
from rulesamples import FOUR, ROWS
from samples import SIX, THIRTY, TWELVE
from spreadsamples import random_spreads
from test_layings import packed_lots, random_lots
from test_linerooms import ALIKE
from test_search import STOCKS, as_lot, counts_beside, is_told, lots_of, sheets_of
from test_staircases import WAYS


def is_let(call):
    """True if the checker returns, False if it raises InvalidPaper."""
    try:
        call()
    except InvalidPaper:
        return False
    return True


class SpreadsTest(unittest.TestCase):
    def check_lot(self, lists, stock, lot):
        """Nothing says of a lot that is spread somehow that it can not be."""
        self.assertNotEqual(verdict(lists, stock, lot), "no")
        self.assertIsNone(telling_no(lists, stock, lot))
        self.assertNotEqual(answer(lists, stock, lot)[0], "no")
        if is_whole_stock(lists, stock) or first_crossing(tuple([entry[:2] for entry in lot])) is None:
            self.assertTrue(goes_in(lists, stock, lot))
        if first_crossing(tuple([entry[:2] for entry in lot])) is None:
            self.assertTrue(chain_goes(lists, stock, lot))
        if len(stock) == 1:
            for many in (stock[0][2], stock[0][2] + 1, THIRTY):
                self.assertIsNone(line_refusal(lists, stock[0][:2], lot, many))
            self.assertLessEqual(fewest_by_lines(lists, lot, stock[0][:2]), stock[0][2])
            self.assertFalse(is_let(lambda: lets_line_refusal(lists, stock[0][:2], lot, stock[0][2], ("heights", 0, 0))))
            if stock[0][2] == 1 and (len(lists[0]), len(lists[1])) == (2, 2):
                self.assertTrue(two_goes(lists, stock[0][:2], lot))

    def test_spreads_at_fractions(self):
        seen = 0
        for lists, stock, spread in random_spreads(250, 111):
            lot = lets_spread(lists, stock, spread)
            self.check_lot(lists, stock, lot)
            if is_whole_stock(lists, stock):
                self.assertEqual(lets_laying(lists, stock, laid_anew(lists, stock, spread)), lot)
                seen += 1
        self.assertGreater(seen, 50)

    def test_diaries(self):
        for lists, stock, diary in random_diaries(80, 112):
            self.check_lot(lists, stock, lets_diary(lists, stock, diary)[0])

    def test_plans(self):
        for lists, sheet, plan in random_plans(150, 113):
            lot, rests = lets_plan(lists, sheet, plan)
            self.check_lot(lists, ((*sheet, 1),), lot)
            pieces = tuple([(*what, 0, 0, (left, 1), (bottom, 1)) for what, left, bottom, _, _
                            in parts_of(lists, sheet, plan) if what is not None])
            self.assertEqual(lets_spread(lists, ((*sheet, 1),), pieces), lot)
            rest_area = sum([width * height * many for width, height, many in rests])
            self.assertEqual(area_of(lists, lot) + rest_area, sheet[0] * sheet[1])

    def test_layings(self):
        for lists, stock, lot in random_lots(80, 114):
            self.check_lot(lists, stock, lot)
            self.assertEqual(answer(lists, stock, lot), ("yes", "shares"))

    def test_wheels(self):
        # (G3): by any lists a sheet that is whole neither way has a lot that can be spread but not laid.
        rng, seen = random.Random(115), 0
        for _ in range(400):
            lists = rng.choice(ROWS)
            sheet = (rng.randint(1, 3 * lists[0][-1]), rng.randint(1, 3 * lists[1][-1]))
            lot = wheel_lot(lists, sheet)
            self.assertEqual(lot is None, whole_ways(lists, sheet) != "neither")
            if lot is None:
                continue
            seen += 1
            stock = ((*sheet, 1),)
            self.assertFalse(goes_in(lists, stock, lot))
            self.assertLess(lets_refusal(lists, stock, lot, wheel_refusal(lists, sheet)), 0)
            used, own_lot = used_lists(lists, lot)
            self.assertTrue(wheel_helps(used, sheet, own_lot))
            self.assertEqual(answer(lists, stock, lot), ("yes", "wheel"))
            if sum([many for _, _, many in lot]) <= 60:
                self.assertEqual(lets_spread(lists, stock, wheel_spread(lists, sheet)), lot)
        self.assertGreater(seen, 60)


class PapersTest(unittest.TestCase):
    def test_staircases_that_are_let(self):
        # (G1), (G12), (G14): each paper that is let is true, by a search through all layings and spreads.
        found = set()
        for lists, stock in STOCKS:
            laid, spread = lots_of(lists, sheets_of(stock), True), lots_of(lists, sheets_of(stock), False)
            stairs = [one for way in WAYS for one in staircases_of(lists, way)]
            for counts in list(counts_beside(lists, spread))[::5]:
                lot = as_lot(lists, counts)
                let = [one for one in stairs if is_let(lambda: lets_refusal(lists, stock, lot, one))]
                self.assertEqual(let == [], is_told(laid, counts))
                if telling_no(lists, stock, lot) is not None:
                    self.assertFalse(is_told(spread, counts))
                found.add((let == [], is_told(spread, counts)))
        self.assertEqual(found, {(True, True), (False, True), (False, False)})

    def test_lines_that_are_let(self):
        found = set()
        for lists, sheet, many in ALIKE:
            spread = lots_of(lists, [sheet] * many, False)
            papers = [(way, index, step) for way, down, across in (("heights", *lists[::-1]), ("widths", *lists))
                      for index in range(len(down)) for step in range(len(across))]
            for counts in list(counts_beside(lists, spread))[::7]:
                lot = as_lot(lists, counts)
                let = [one for one in papers if is_let(lambda: lets_line_refusal(lists, sheet, lot, many, one))]
                self.assertFalse(let and is_told(spread, counts), (lists, sheet, lot))
                self.assertEqual(let == [], line_refusal(lists, sheet, lot, many) is None)
                found.add(let == [])
        self.assertEqual(found, {True, False})

    def test_fewest_sheets_are_one(self):
        seen = 0
        for lists, lot, sheet in counted_cases(150, 116):
            if whole_ways(lists, sheet) != "neither":
                number = fewest(lists, lot, sheet)
                self.assertEqual([fewest_in_shares(lists, lot, sheet), fewest_by_lines(lists, lot, sheet)], [number] * 2)
                if number > 0:
                    self.assertEqual(answer(lists, stock_of(sheet, number), lot)[0], "yes")
                    self.assertEqual(answer(lists, stock_of(sheet, number - 1), lot), ("no", "staircase"))
                seen += 1
            else:
                self.assertLessEqual(fewest_by_lines(lists, lot, sheet), fewest_in_shares(lists, lot, sheet))
        self.assertGreater(seen, 50)


class SawingTest(unittest.TestCase):
    def test_sheets_with_pieces(self):
        # (G11) for what a desk lays: one cut fewer than parts, and what is left over is whole across.
        rng = random.Random(117)
        for _ in range(40):
            lists = rng.choice(ROWS[:7])
            desk = Desk(lists, ((rng.randint(1, 2 * lists[0][-1]), 2 * lists[1][-1] + 1, 2), (9, 7, 2)))
            for _ in range(4):
                lot = tuple([(a, b, rng.randint(1, 2)) for a in range(len(lists[0])) for b in range(len(lists[1]))
                             if rng.random() < 0.3])
                if desk.barred(("job", lot)) is not None:
                    continue
                used, laying, offcuts = desk.job(lot)
                self.assertTrue(all([is_whole_across(lists, rest[:2]) for rest in offcuts]))
                for sort, (width, height, many) in enumerate(used):
                    for sheet in range(many):
                        plan = plan_of(lists, used, laying, sort, sheet)
                        self.assertEqual(cuts_in(plan), len(parts_of(lists, (width, height), plan)) - 1)


class ExactTest(unittest.TestCase):
    def test_numbers_of_many_figures(self):
        # (G14): copies of a lot on copies of a stock, and one piece of one kind more than there is ground for.
        for lists, stock, lot in packed_lots():
            for many in (1, 7, THIRTY):
                grown = tuple([(width, height, count * many) for width, height, count in stock])
                self.assertTrue(goes_in(lists, grown, lot_times(lists, lot, many)))
                self.assertEqual(area_of(lists, lot_times(lists, lot, many)), many * area_of(lists, lot))
        for lists in (FOUR, SIX):
            side = lists[0][-1] * lists[1][-1]
            sheet = (TWELVE // side * side, TWELVE // side * side)
            for a in range(len(lists[0])):
                for b in range(len(lists[1])):
                    shares = (sheet[0] // lists[0][a]) * (sheet[1] // lists[1][b]) * THIRTY
                    self.assertTrue(goes_in(lists, ((*sheet, THIRTY),), ((a, b, shares),)))
                    self.assertEqual(answer(lists, ((*sheet, THIRTY),), ((a, b, shares + 1),)), ("no", "staircase"))
                    self.assertEqual(fewest(lists, ((a, b, shares + 1),), sheet), THIRTY + 1)

    def test_spreads_of_layings(self):
        for lists, stock, lot in random_lots(60, 118):
            pieces = sum([many for _, _, many in lot])
            if pieces <= 60:
                laying = laid_anew(lists, stock, ()) if lot == () else Desk(lists, stock).job(lot)[1]
                used = () if lot == () else Desk(lists, stock).job(lot)[0]
                self.assertEqual(lets_spread(lists, used, spread_of(lists, used, laying)), lot)


if __name__ == "__main__":
    unittest.main()
