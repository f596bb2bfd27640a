"""Point 19: reckoning with stocks."""

import unittest
from itertools import product

from onesheetmore.stocks import first_sheets_of, settled_stock, sheets_in, stock_minus, stock_plus
from samples import STOCK, THIRTY, TWELVE, check_calls, check_refusals, refusal_of
import samples

MIXED = ((4, 4, 2), (3, 2, 1), (4, 4, 3), (2, 9, 1))
STOCKS = [(), STOCK, MIXED, ((TWELVE, TWELVE, THIRTY),), ((3, 2, 1),), ((3, 2, 1), (3, 2, 1)), ((2, 3, 1),)]


def sheets_of(stock):
    return [(width, height) for width, height, many in stock for _ in range(many)]


class StocksTest(unittest.TestCase):
    def test_examples(self):
        self.assertEqual([stock_plus(STOCK, ((3, 2, 4),)), first_sheets_of(STOCK, 2)],
                         [((3, 2, 5), (4, 4, 2)), ((3, 2, 1), (4, 4, 1))])

    def test_sheets_in(self):
        self.assertEqual([sheets_in(stock) for stock in STOCKS], [0, 3, 7, THIRTY, 1, 2, 1])

    def test_settled(self):
        self.assertEqual(settled_stock(MIXED), ((2, 9, 1), (3, 2, 1), (4, 4, 5)))
        self.assertEqual(settled_stock(()), ())
        self.assertEqual(settled_stock(((3, 2, 1), (3, 2, 1))), ((3, 2, 2),))

    def test_plus_and_minus(self):
        for one, other in product(STOCKS, repeat=2):
            both = stock_plus(one, other)
            self.assertEqual(both, settled_stock(one + other))
            self.assertEqual(stock_minus(both, other), settled_stock(one))
            self.assertEqual(stock_minus(both, one), settled_stock(other))
        self.assertEqual(stock_minus(MIXED, ((4, 4, 1), (4, 4, 4))), ((2, 9, 1), (3, 2, 1)))
        self.assertEqual(refusal_of(lambda: stock_minus(MIXED, ((4, 4, 3), (4, 4, 3)))), ("other", -1))
        self.assertEqual(refusal_of(lambda: stock_minus(MIXED, ((9, 2, 1),))), ("other", -1))
        self.assertEqual(refusal_of(lambda: stock_minus((), STOCK)), ("other", -1))

    def test_first_sheets_of(self):
        for stock in (STOCK, MIXED, ()):
            for many in range(sheets_in(stock) + 1):
                first = first_sheets_of(stock, many)
                self.assertTrue(samples.is_stock(first))
                self.assertEqual(sheets_of(first), sheets_of(stock)[:many])
                self.assertEqual(first, tuple([(*one[:2], two[2]) for one, two in zip(stock, first)]))
        self.assertEqual(first_sheets_of(((1, 1, THIRTY), (2, 2, 5)), THIRTY + 1), ((1, 1, THIRTY), (2, 2, 1)))
        self.assertEqual(refusal_of(lambda: first_sheets_of(STOCK, 4)), ("many", -1))
        self.assertEqual(first_sheets_of((), 0), ())

    def test_refusals(self):
        check_refusals(self, stock_plus, {"stock": STOCK, "other": ((1, 1, 1),)}, {"other": samples.is_stock})
        check_refusals(self, stock_minus, {"stock": ((1, 1, 2),), "other": ((1, 1, 1),)}, {
            "other": lambda thing: samples.is_stock(thing) and thing in [(), ((1, 1, 1),), ((1, 1, 2),)]
            or thing == ((1, 1, 1), (1, 1, 1)) and samples.is_stock(thing)})
        check_refusals(self, first_sheets_of, {"stock": STOCK, "many": 1},
                       {"many": lambda thing: samples.is_number(thing) and thing <= 3})
        for function in (stock_plus, stock_minus):
            check_calls(self, function, {"stock": MIXED, "other": ((4, 4, 5),)})
        check_calls(self, first_sheets_of, {"stock": MIXED, "many": 4})
        for function in (sheets_in, settled_stock):
            check_calls(self, function, {"stock": MIXED})


if __name__ == "__main__":
    unittest.main()
