"""Points 93, 94 and (G12): lots no two kinds of which cross."""

import random
import unittest

from onesheetmore.chainrooms import chain_goes, chain_rooms, chain_sheets
from onesheetmore.errors import Unfit
from onesheetmore.fewest import fewest_in_shares
from onesheetmore.verdicts import goes_in, verdict
from countsamples import stock_of
from rulesamples import ROWS, crossing_in
from samples import ROUND, SIX, STOCK, THIRTY, THREE, TWELVE, TWO, all_kinds, check_calls, check_refusals, read_no_error, refusal_of
from test_layings import random_stock
from test_search import STOCKS, as_lot, counts_beside, is_told, lots_of, sheets_of
import samples

CHAIN = ((0, 0, 1), (1, 0, 2), (1, 1, 1))


def is_chain_lot(lists):
    return lambda thing: samples.is_lot(lists)(thing) and not crossing_in([entry[:2] for entry in thing])


def random_chain(lists, rng, most=30):
    """A lot no two kinds of which cross."""
    kinds = []
    for kind in rng.sample(all_kinds(lists), len(all_kinds(lists))):
        if rng.random() < 0.7 and not crossing_in([*kinds, kind]):
            kinds.append(kind)
    return tuple([(*kind, rng.randint(1, most)) for kind in sorted(kinds)])


def definition(lists, stock, lot):
    """The words of point 94."""
    def area(a, b):
        return lists[0][a] * lists[1][b]
    found = []
    for a, b, _ in lot:
        rooms = sum([many * (width // lists[0][a]) * (height // lists[1][b]) for width, height, many in stock])
        holding = [entry for entry in lot if entry[0] >= a and entry[1] >= b]
        found.append(((a, b), rooms, sum([many * area(wide, high) // area(a, b) for wide, high, many in holding])))
    return tuple(found)


class ChainRoomsTest(unittest.TestCase):
    def test_examples(self):
        self.assertEqual(chain_rooms(TWO, ((3, 3, 1),), CHAIN), (((0, 0), 9, 9), ((1, 0), 3, 4), ((1, 1), 1, 1)))
        self.assertEqual([chain_goes(TWO, ((3, 3, 1),), CHAIN), chain_sheets(TWO, CHAIN, (3, 3))], [False, 2])

    def test_against_the_words(self):
        rng = random.Random(94)
        found = set()
        for _ in range(300):
            lists = rng.choice(ROWS + [SIX])
            lot, stock = random_chain(lists, rng, rng.choice([3, 30, THIRTY])), random_stock(lists, rng)
            rooms = chain_rooms(lists, stock, lot)
            self.assertEqual(rooms, definition(lists, stock, lot))
            goes = all([wants <= there for _, there, wants in rooms])
            self.assertIs(chain_goes(lists, stock, lot), goes)
            self.assertIs(goes, goes_in(lists, stock, lot))
            found.add((goes, len(lot) > 2))
            # (G12): what does not go in can not be spread, on any stock.
            self.assertEqual(verdict(lists, stock, lot), "yes" if goes else "no")
        self.assertEqual(len(found), 4)

    def test_sheets(self):
        rng = random.Random(95)
        found = set()
        for _ in range(300):
            lists = rng.choice(ROWS)
            lot = random_chain(lists, rng, rng.choice([3, 30, THIRTY]))
            sheet = (rng.randint(1, 3 * lists[0][-1]), rng.randint(1, 3 * lists[1][-1]))
            lacking = [(a, b) for a, b, _ in lot if lists[0][a] > sheet[0] or lists[1][b] > sheet[1]]
            told = read_no_error(lambda: chain_sheets(lists, lot, sheet))
            found.add((lacking == [], len(lot) > 1))
            if lacking:
                self.assertEqual((type(told), told.kind), (Unfit, lacking[0]))
                continue
            self.assertEqual(told, fewest_in_shares(lists, lot, sheet))
            self.assertTrue(chain_goes(lists, stock_of(sheet, told), lot))
            self.assertFalse(told > 0 and chain_goes(lists, stock_of(sheet, told - 1), lot))
        self.assertEqual(len(found), 4)

    def test_beside_a_search_through_spreads(self):
        found = set()
        for lists, stock in STOCKS:
            most = lots_of(lists, sheets_of(stock), False)
            for counts in counts_beside(lists, most):
                lot = as_lot(lists, counts)
                if is_chain_lot(lists)(lot):
                    found.add(chain_goes(lists, stock, lot))
                    self.assertIs(chain_goes(lists, stock, lot), is_told(most, counts), (lists, stock, lot))
        self.assertEqual(found, {True, False})

    def test_edges(self):
        self.assertEqual([chain_rooms(TWO, STOCK, ()), chain_goes(TWO, (), ()), chain_sheets(THREE, (), (1, 1))], [(), True, 0])
        self.assertEqual(chain_rooms(TWO, (), ((1, 1, THIRTY),)), (((1, 1), 0, THIRTY),))
        self.assertEqual(chain_sheets(TWO, ((0, 0, 1), (1, 1, THIRTY)), (TWELVE, TWELVE)),
                         -(-THIRTY // ((TWELVE - 1) // 2) ** 2))
        self.assertEqual(chain_sheets(TWO, ((0, 0, 6), (1, 1, 1)), (3, 3)), 2)

    def test_refusals(self):
        lot = {"lot": is_chain_lot(TWO)}
        given = {"lists": TWO, "stock": STOCK, "lot": CHAIN}
        for function in (chain_rooms, chain_goes):
            check_refusals(self, function, given, lot)
            check_calls(self, function, given)
            self.assertEqual(refusal_of(lambda: function(TWO, STOCK, ROUND)), ("lot", -1))
        given = {"lists": TWO, "lot": CHAIN, "sheet": (3, 3)}
        check_refusals(self, chain_sheets, given, {**lot, "sheet": samples.is_sheet})
        check_calls(self, chain_sheets, given)
        self.assertEqual(refusal_of(lambda: chain_sheets(TWO, ROUND, None)), ("lot", -1))
        self.assertEqual(refusal_of(lambda: chain_sheets(TWO, CHAIN, (0, 3))), ("sheet", -1))


if __name__ == "__main__":
    unittest.main()
