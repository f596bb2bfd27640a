"""Point 72: the copies of one lot as a class."""

import random
import unittest

from onesheetmore.copies import copies_for, most_copies
from onesheetmore.copyclasses import Copies
from countsamples import DEAR, PAIR, area_sheets, counted_cases, is_sheet_of_blocks, lot_times
from samples import ODD, ROUND, THIRTY, THREE, TWELVE, TWO, check_calls, check_refusals, refusal_of
import samples


class CopiesTest(unittest.TestCase):
    def test_example(self):
        twos = Copies(TWO, PAIR, (2, 2))
        self.assertEqual([twos.sheets(3), twos.area_sheets(3), twos.one_more(3), twos.period(), twos.most(3)],
                         [4, 3, True, 4, 2])

    def test_as_the_functions(self):
        rng = random.Random(72)
        found = set()
        for lists, lot, sheet in counted_cases(200, 72):
            if lot == () or not is_sheet_of_blocks(lists)(sheet):
                continue
            copies = Copies(lists, lot, sheet)
            self.assertEqual(copies.period(), (lists[0][-1] // lists[0][0]) * (lists[1][-1] // lists[1][0]))
            for many in (0, 1, rng.randint(2, 50), rng.randint(1, THIRTY)):
                self.assertEqual(copies.sheets(many), copies_for(lists, lot, sheet, many))
                self.assertEqual(copies.area_sheets(many), area_sheets(lists, lot_times(lot, many), sheet))
                one_more = copies.sheets(many) == copies.area_sheets(many) + 1
                self.assertIs(copies.one_more(many), one_more)
                self.assertIn(copies.sheets(many) - copies.area_sheets(many), (0, 1))
                self.assertEqual(copies.most(many), most_copies(lists, lot, sheet, many))
                found.add(one_more)
        self.assertEqual(found, {True, False})

    def test_large(self):
        copies = Copies(TWO, ((1, 1, THIRTY),), (TWELVE - 1, TWELVE - 1))
        self.assertEqual(copies.sheets(THIRTY), -(-THIRTY ** 2 // ((TWELVE - 1) // 2) ** 2))
        self.assertIs(copies.one_more(THIRTY), False)
        self.assertEqual(copies.most(THIRTY), ((TWELVE - 1) // 2) ** 2)

    def test_none(self):
        copies = Copies(ODD, DEAR, (3, 6))
        self.assertEqual([copies.sheets(0), copies.area_sheets(0), copies.one_more(0), copies.most(0)], [0, 0, False, 0])

    def test_refusals(self):
        given = {"lists": TWO, "lot": PAIR, "sheet": (2, 2)}
        check_refusals(self, Copies, given, {
            "lot": lambda thing: samples.is_lot(TWO)(thing) and thing != (), "sheet": is_sheet_of_blocks(TWO)})
        copies = Copies(**given)
        for method in (copies.sheets, copies.area_sheets, copies.one_more):
            check_refusals(self, method, {"t": 3}, {"t": samples.is_number})
            check_calls(self, method, {"t": 3})
        check_refusals(self, copies.most, {"sheets": 3}, {"sheets": samples.is_number})
        check_calls(self, copies.most, {"sheets": 3})
        check_calls(self, copies.period, {})
        self.assertEqual(refusal_of(lambda: Copies(THREE, ROUND, (4, 6))), ("sheet", -1))
        self.assertEqual(refusal_of(lambda: Copies(THREE, (), (4, 6))), ("lot", -1))


if __name__ == "__main__":
    unittest.main()
