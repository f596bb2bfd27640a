"""Points 12 and 14: the checkers of lists and lots."""

import unittest

from onesheetmore.errors import InvalidPaper
from onesheetmore.kinds import is_lists, is_lot
from onesheetmore.listchecker import lets_lists
from onesheetmore.lotchecker import lets_lot
from samples import ANY, ONE_SIZE, ROUND, SIX, STOCK, THIRTY, THREE, TWO, changed, check_calls


class CheckersTest(unittest.TestCase):
    def assert_fault(self, call, word, at):
        with self.assertRaises(InvalidPaper) as caught:
            call()
        self.assertEqual(repr((caught.exception.word, caught.exception.at)), repr((word, at)))

    def test_examples(self):
        self.assert_fault(lambda: lets_lists(((1, 2), (1, 3, 4))), "step", (1, 2))
        self.assertEqual(lets_lot(TWO, ROUND), 4)

    def test_lists_let(self):
        self.assertEqual(lets_lists(TWO), (2, 2))
        self.assertEqual(lets_lists(ONE_SIZE), (1, 1))
        self.assertEqual(lets_lists(SIX), (6, 6))
        self.assertEqual(lets_lists(((1, 10 ** 59), (7,))), (2, 1))

    def test_lists_faults(self):
        for thing in (None, 0, True, "", (), ((1,),), ((1,), (1,), (1,)), [(1,), (1,)]):
            self.assert_fault(lambda: lets_lists(thing), "lists", -1)
        for sizes in (None, 1, [], [1], (), "12"):
            self.assert_fault(lambda: lets_lists((sizes, None)), "side", 0)
            self.assert_fault(lambda: lets_lists(((1,), sizes)), "side", 1)
        for size in (0, -1, True, None, "1", (1,), [1]):
            self.assert_fault(lambda: lets_lists(((size,), ())), "size", (0, 0))
            self.assert_fault(lambda: lets_lists(((1, 2), (1, size, 3))), "size", (1, 1))
        for size in (1, 2, 3, 5):
            self.assert_fault(lambda: lets_lists(((2, size, 0), ())), "step", (0, 1))
        self.assert_fault(lambda: lets_lists(((2, 4, 6), (True,))), "step", (0, 2))
        self.assert_fault(lambda: lets_lists(((2, 4), (3, 3))), "step", (1, 1))
        self.assert_fault(lambda: lets_lists(((2, 3, 0), (0,))), "step", (0, 1))
        self.assert_fault(lambda: lets_lists(((2, 0, 3), (0,))), "size", (0, 1))

    def test_lots_let(self):
        self.assertEqual(lets_lot(TWO, ()), 0)
        self.assertEqual(lets_lot(TWO, ((0, 0, THIRTY), (1, 1, THIRTY))), 2 * THIRTY)
        self.assertEqual(lets_lot(SIX, ((5, 5, 3),)), 3)

    def test_lot_faults(self):
        for thing in (None, 0, True, "", [], [(0, 0, 1)]):
            self.assert_fault(lambda: lets_lot(TWO, thing), "lot", -1)
        for entry in (None, 1, (), (0, 0), [0, 0, 1], (0, 0, 1, 1), "001"):
            self.assert_fault(lambda: lets_lot(TWO, (entry,)), "entry", 0)
            self.assert_fault(lambda: lets_lot(TWO, ((0, 0, 1), entry, entry)), "entry", 1)
        for index in (2, -1, True, False, None, "0", (0,)):
            self.assert_fault(lambda: lets_lot(TWO, ((0, 0, 1), (index, 1, 0))), "kind", 1)
            self.assert_fault(lambda: lets_lot(TWO, ((1, index, 1), (0, 0, 1))), "kind", 0)
        for many in (0, -1, True, None, "1", (1,)):
            self.assert_fault(lambda: lets_lot(TWO, ((1, 0, 1), (0, 0, many))), "many", 1)
        for entry in ((0, 1, 9), (0, 0, 1)):
            self.assert_fault(lambda: lets_lot(TWO, ((0, 1, 1), entry, None)), "sequence", 1)
        self.assert_fault(lambda: lets_lot(TWO, ((0, 1, 1), (0, 1, 1), (2, 2, 0))), "sequence", 1)
        self.assert_fault(lambda: lets_lot(TWO, ((0, 1, 1), (2, 0, 0), (0, 0, 1))), "kind", 1)

    def test_return_where_the_kinds_say_so(self):
        for thing in ANY + changed(THREE) + changed(SIX) + changed(ROUND) + changed(STOCK):
            for test, checker in (
                    (is_lists(thing), lets_lists),
                    (is_lot(TWO, thing), lambda paper: lets_lot(TWO, paper)),
                    (is_lot(SIX, thing), lambda paper: lets_lot(SIX, paper))):
                try:
                    checker(thing)
                    returned = True
                except InvalidPaper:
                    returned = False
                self.assertEqual(returned, test, thing)

    def test_by_name_and_once_more(self):
        check_calls(self, lets_lists, {"thing": THREE})
        check_calls(self, lets_lot, {"lists": TWO, "thing": ROUND})


if __name__ == "__main__":
    unittest.main()
