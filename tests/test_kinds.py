"""Points 2 to 5 and 13: the kinds of values."""

import unittest

from onesheetmore import kinds
from samples import ANY, ODD, ONE_SIZE, ROUND, SIDES, SIX, STOCK, THIRTY, THREE, TWELVE, TWO, changed
import samples


def is_row(thing):
    return type(thing) is tuple and len(thing) > 0 and all([samples.is_count(size) for size in thing]) and all(
        [low < high and high % low == 0 for low, high in zip(thing, thing[1:])])


def is_lists(thing):
    return type(thing) is tuple and len(thing) == 2 and is_row(thing[0]) and is_row(thing[1])


GOOD = [(1, 2), (0, 1), (-1, 6), (3, 2), ROUND, STOCK, ((0, 0), (0, 1), (1, 1)), TWO, THREE, ODD, ONE_SIZE, SIDES, SIX,
        ((0, 0, THIRTY), (1, 1, 1)), ((TWELVE, TWELVE, THIRTY),), ((5,), (1, 7, 49)), ((2, 4), (3,))]


class KindsTest(unittest.TestCase):
    def hold_against(self, function, test, things):
        found = set()
        for thing in things:
            told = function(thing)
            self.assertIs(type(told), bool)
            self.assertEqual(told, test(thing), (function, thing))
            found.add(told)
        self.assertEqual(found, {True, False})

    def test_examples(self):
        self.assertEqual([kinds.is_quotient((2, 4)), kinds.is_lists(((2, 4), (3,)))], [False, True])

    def test_against_the_definitions(self):
        things = ANY + GOOD + [other for thing in GOOD for other in changed(thing)]
        self.hold_against(kinds.is_integer, lambda thing: type(thing) is int, things)
        self.hold_against(kinds.is_number, samples.is_number, things)
        self.hold_against(kinds.is_quotient, samples.is_quotient, things)
        self.hold_against(kinds.is_lists, is_lists, things)
        self.hold_against(kinds.is_sheet, samples.is_sheet, things)
        self.hold_against(kinds.is_stock, samples.is_stock, things)
        for lists in (TWO, THREE, ODD, ONE_SIZE, SIX):
            self.hold_against(lambda thing: kinds.is_kind(lists, thing), samples.is_kind(lists), things)
            self.hold_against(lambda thing: kinds.is_lot(lists, thing), samples.is_lot(lists), things)
            self.hold_against(lambda thing: kinds.is_kinds(lists, thing), samples.is_kinds(lists), things)

    def test_bools_are_no_integers(self):
        self.assertFalse(kinds.is_integer(True))
        self.assertFalse(kinds.is_number(False))
        self.assertFalse(kinds.is_quotient((0, True)))
        self.assertFalse(kinds.is_lists(((True, 2), (1,))))
        self.assertFalse(kinds.is_lot(TWO, ((0, True, 2),)))
        self.assertFalse(kinds.is_stock(((True, 2, 2),)))
        self.assertFalse(kinds.is_kinds(TWO, ((0, False),)))

    def test_empty_values(self):
        self.assertTrue(kinds.is_lot(TWO, ()))
        self.assertTrue(kinds.is_stock(()))
        self.assertTrue(kinds.is_kinds(TWO, ()))
        for thing in ([], "", None, 0, False):
            self.assertFalse(kinds.is_lot(TWO, thing))
            self.assertFalse(kinds.is_stock(thing))
            self.assertFalse(kinds.is_kinds(TWO, thing))

    def test_rows_beyond_the_limits(self):
        self.assertTrue(kinds.is_lists(SIX))
        self.assertTrue(kinds.is_kind(SIX, (5, 5)))
        self.assertFalse(kinds.is_kind(SIX, (6, 5)))
        self.assertTrue(kinds.is_lists(((10 ** 59, 2 * 10 ** 59), (1,))))
        self.assertFalse(kinds.is_lists(((2, 2), (1,))))
        self.assertFalse(kinds.is_lists(((2, 3), (1,))))
        self.assertFalse(kinds.is_lists(((4, 2), (1,))))

    def test_stocks_in_any_sequence(self):
        self.assertTrue(kinds.is_stock(((4, 4, 2), (3, 2, 1), (4, 4, 2))))
        self.assertFalse(kinds.is_stock(((4, 4, 0),)))
        self.assertFalse(kinds.is_lot(TWO, ((0, 0, 0),)))
        self.assertFalse(kinds.is_lot(TWO, ((1, 0, 1), (0, 1, 1))))
        self.assertFalse(kinds.is_lot(TWO, ((0, 1, 1), (0, 1, 2))))

    def test_by_name_and_once_more(self):
        samples.check_calls(self, kinds.is_integer, {"thing": [1, (2,)]})
        samples.check_calls(self, kinds.is_number, {"thing": 3})
        samples.check_calls(self, kinds.is_quotient, {"thing": (1, 3)})
        samples.check_calls(self, kinds.is_lists, {"thing": [[1], [2]]})
        samples.check_calls(self, kinds.is_sheet, {"thing": (1, 3)})
        samples.check_calls(self, kinds.is_stock, {"thing": STOCK})
        for function in (kinds.is_kind, kinds.is_lot, kinds.is_kinds):
            samples.check_calls(self, function, {"lists": TWO, "thing": (0, 1)})
            samples.check_calls(self, function, {"lists": TWO, "thing": [(0, 1, [2])]})


if __name__ == "__main__":
    unittest.main()
