"""Points 20 and 21: lines written and read."""

import unittest

from onesheetmore.errors import InvalidText
from onesheetmore.textreadings import read_lists, read_lot, read_stock
from onesheetmore.texts import lists_line, lot_line, stock_line
from samples import ODD, ONE_SIZE, ROUND, SIDES, SIX, STOCK, THIRTY, THREE, TWELVE, TWO, check_calls, check_refusals
import samples

LARGE = 10 ** 60 - 1


class TextsTest(unittest.TestCase):
    def assert_bad(self, call, field):
        with self.assertRaises(InvalidText) as caught:
            call()
        self.assertEqual((caught.exception.line, caught.exception.field), (0, field))

    def test_examples(self):
        self.assertEqual([lists_line(((1, 2, 4), (1, 2))), lot_line(TWO, ROUND), stock_line(STOCK)],
                         ["1 2 4 | 1 2", "0,1*2 1,0*2", "3x2*1 4x4*2"])
        self.assert_bad(lambda: read_lot(TWO, "0,1*2 2,0*1"), 1)

    def test_written_and_read(self):
        for lists in (TWO, THREE, ODD, SIDES, ONE_SIZE, SIX, ((LARGE,), (1, LARGE))):
            self.assertEqual(read_lists(lists_line(lists)), lists)
        for lot in ((), ROUND, ((0, 0, LARGE), (2, 2, 1)), ((1, 2, THIRTY),)):
            self.assertEqual(read_lot(THREE, lot_line(THREE, lot)), lot)
        for stock in ((), STOCK, STOCK[::-1], STOCK + STOCK, ((TWELVE, 1, LARGE),)):
            self.assertEqual(read_stock(stock_line(stock)), stock)
        self.assertEqual([lot_line(TWO, ()), stock_line(())], ["", ""])
        self.assertEqual([read_lot(TWO, ""), read_stock("")], [(), ()])
        self.assertEqual(lists_line(ONE_SIZE), "3 | 2")

    def test_lists_that_can_not_be_read(self):
        for text, field in (
                ("", 0), ("|", 0), ("1", 1), ("1 |", 2), ("| 1", 0), ("1 | |", 2), ("1 | 1 |", 3), ("1 | 1 | 1", 3),
                ("0 | 1", 0), ("1 0 | 1", 1), ("2 2 | 1", 1), ("2 1 | 1", 1), ("2 3 | 1", 1), ("1 | 2 3", 3),
                ("1 | 0", 2), ("01 | 1", 0), ("1 | 00", 2), ("1  | 1", 1), (" 1 | 1", 0), ("1 | 1 ", 3), (" ", 0),
                ("1| 1", 0), ("1 |1", 1), ("+1 | 1", 0), ("-1 | 1", 0), ("1.0 | 1", 0), ("1_0 | 1", 0), ("a | 1", 0),
                ("1 2 4 | 1 2 4 6", 7), ("1 2", 2), ("1 2 4 |", 4), ("1,2 | 1", 0), ("1 || 1", 1)):
            self.assert_bad(lambda: read_lists(text), field)

    def test_lots_that_can_not_be_read(self):
        for text, field in (
                (" ", 0), ("0,0*1 ", 1), (" 0,0*1", 0), ("0,0*1  1,1*1", 1), ("0,0*0", 0), ("0,0*01", 0), ("00,0*1", 0),
                ("2,0*1", 0), ("0,2*1", 0), ("0,0", 0), ("0*1", 0), ("0,0,0*1", 0), ("0,0*1*1", 0), ("0*0,1", 0),
                ("0,1*1 0,1*1", 1), ("0,1*1 0,0*1", 1), ("1,0*1 0,1*1", 1), ("0,0*1 0,1*1 1,0*", 2), (",0*1", 0),
                ("0,*1", 0), ("0,0*", 0), ("*", 0), (",*", 0), ("-0,0*1", 0), ("0,0*+1", 0), ("0x0*1", 0), ("a", 0),
                ("0,0*1 0,1*1 1,1*1 1,0*1", 3), ("0, 0*1", 0)):
            self.assert_bad(lambda: read_lot(TWO, text), field)

    def test_stocks_that_can_not_be_read(self):
        for text, field in (
                (" ", 0), ("1x1*1 ", 1), ("0x1*1", 0), ("1x0*1", 0), ("1x1*0", 0), ("1x1*01", 0), ("01x1*1", 0),
                ("1x1", 0), ("1*1", 0), ("1x1x1*1", 0), ("1x1*1*1", 0), ("1,1*1", 0), ("1X1*1", 0), ("2x2*2  1x1*1", 1),
                ("2x2*2 1x1*1 x", 2), ("x1*1", 0), ("1x*1", 0), ("1x1*", 0), ("1*1x1", 0)):
            self.assert_bad(lambda: read_stock(text), field)

    def test_long_texts(self):
        self.assert_bad(lambda: read_lists("9" * 4000), 1)
        self.assertEqual(read_stock(" ".join(["1x1*1"] * 666)), ((1, 1, 1),) * 666)
        self.assert_bad(lambda: read_stock(" " * 4000), 0)
        self.assertEqual(read_lot(TWO, f"0,0*{THIRTY}"), ((0, 0, THIRTY),))

    def test_refusals(self):
        check_refusals(self, lot_line, {"lists": TWO, "lot": ROUND}, {"lot": samples.is_lot(TWO)})
        check_refusals(self, read_lists, {"text": "1 | 1"}, {"text": samples.is_text})
        check_refusals(self, read_stock, {"text": "1x1*1"}, {"text": samples.is_text})
        check_refusals(self, read_lot, {"lists": TWO, "text": "0,0*1"}, {"text": samples.is_text})
        check_calls(self, lists_line, {"lists": TWO})
        check_calls(self, stock_line, {"stock": STOCK})
        check_calls(self, lot_line, {"lists": TWO, "lot": ROUND})
        check_calls(self, read_lists, {"text": "1 2 | 1"})
        check_calls(self, read_stock, {"text": "1x1*1"})
        check_calls(self, read_lot, {"lists": TWO, "text": "0,0*1"})


if __name__ == "__main__":
    unittest.main()
