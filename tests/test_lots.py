"""Point 18: reckoning with lots."""

import unittest
from itertools import product

from onesheetmore.errors import NotUsable
from onesheetmore.kinds import is_lot
from onesheetmore.lots import area_of, count_in, lot_minus, lot_of, lot_plus, lot_times, pieces_in, split_kind
from samples import ROUND, SIDES, SIX, THIRTY, THREE, TWO, all_kinds, check_calls, check_refusals, refusal_of
import samples


def small_lots(lists, most):
    kinds = all_kinds(lists)
    for counts in product(range(most + 1), repeat=len(kinds)):
        yield tuple([(a, b, many) for (a, b), many in zip(kinds, counts) if many])


class LotsTest(unittest.TestCase):
    def test_examples(self):
        self.assertEqual(split_kind(THREE, ((2, 1, 2),), (2, 1), (0, 0), 1), ((0, 0, 8), (2, 1, 1)))
        with self.assertRaises(NotUsable) as caught:
            lot_minus(TWO, ROUND, ((0, 1, 3),))
        self.assertEqual((caught.exception.word, caught.exception.at), ("other", -1))

    def test_lot_of(self):
        self.assertEqual(lot_of(TWO, ()), ())
        self.assertEqual(lot_of(TWO, ((1, 0), (0, 1), (1, 0), (1, 0))), ((0, 1, 1), (1, 0, 3)))
        self.assertEqual(lot_of(SIX, ((5, 5), (0, 5))), ((0, 5, 1), (5, 5, 1)))

    def test_counts(self):
        lot = ((0, 1, 2), (1, 0, THIRTY))
        self.assertEqual([count_in(TWO, lot, a, b) for a, b in all_kinds(TWO)], [0, 2, THIRTY, 0])
        self.assertEqual(pieces_in(TWO, lot), THIRTY + 2)
        self.assertEqual(area_of(SIDES, lot), 2 * 6 * 2 + 4 * 3 * THIRTY)
        self.assertEqual([pieces_in(TWO, ()), area_of(TWO, ()), count_in(TWO, (), 1, 1)], [0, 0, 0])

    def test_plus_and_minus(self):
        lots = list(small_lots(TWO, 1)) + [((0, 0, THIRTY),), ((0, 1, 5), (1, 1, 7))]
        for one, other in product(lots, repeat=2):
            both = lot_plus(TWO, one, other)
            self.assertTrue(is_lot(TWO, both))
            for a, b in all_kinds(TWO):
                self.assertEqual(count_in(TWO, both, a, b), count_in(TWO, one, a, b) + count_in(TWO, other, a, b))
            self.assertEqual(lot_minus(TWO, both, other), one)
            if all([count_in(TWO, one, a, b) >= many for a, b, many in other]):
                self.assertEqual(lot_plus(TWO, lot_minus(TWO, one, other), other), one)
            else:
                self.assertEqual(refusal_of(lambda: lot_minus(TWO, one, other)), ("other", -1))

    def test_times(self):
        self.assertEqual(lot_times(TWO, ROUND, 0), ())
        self.assertEqual(lot_times(TWO, ROUND, 1), ROUND)
        self.assertEqual(lot_times(TWO, ROUND, THIRTY), ((0, 1, 2 * THIRTY), (1, 0, 2 * THIRTY)))
        self.assertEqual(lot_times(TWO, (), 5), ())

    def test_split_kind(self):
        lot = ((0, 0, 1), (1, 1, 4), (2, 1, 2))
        self.assertEqual(split_kind(THREE, lot, (1, 1), (1, 0), 3), ((0, 0, 1), (1, 0, 6), (1, 1, 1), (2, 1, 2)))
        self.assertEqual(split_kind(THREE, lot, (1, 1), (0, 0), 4), ((0, 0, 17), (2, 1, 2)))
        self.assertEqual(split_kind(THREE, lot, (2, 2), (0, 0), 0), lot)
        self.assertEqual(split_kind(THREE, (), (2, 2), (0, 0), 0), ())
        for kind, lesser in product(all_kinds(THREE), repeat=2):
            given = lot_plus(THREE, lot, ((*kind, THIRTY),))
            if kind != lesser and lesser[0] <= kind[0] and lesser[1] <= kind[1]:
                split = split_kind(THREE, given, kind, lesser, THIRTY)
                self.assertEqual(area_of(THREE, split), area_of(THREE, given))
                self.assertEqual(count_in(THREE, split, *kind), count_in(THREE, lot, *kind))
            else:
                self.assertEqual(refusal_of(lambda: split_kind(THREE, given, kind, lesser, 1)), ("lesser", -1))

    def test_rows_of_unlike_sizes(self):
        lists = ((2, 4, 20), (3, 27))
        self.assertEqual(split_kind(lists, ((2, 1, 2),), (2, 1), (1, 0), 2), ((1, 0, 90),))
        self.assertEqual(split_kind(lists, ((1, 1, 1), (2, 0, 1)), (2, 0), (0, 0), 1), ((0, 0, 10), (1, 1, 1)))
        self.assertEqual(area_of(lists, ((0, 1, 1), (2, 0, 1))), 54 + 60)
        given = {"lists": lists, "lot": ((0, 1, 1), (2, 0, 5)), "a": 2, "b": 0}
        self.assertEqual(count_in(**given), 5)
        check_refusals(self, count_in, given, {
            "lot": samples.is_lot(lists), "a": samples.is_below(3), "b": samples.is_below(2)})

    def test_refusals(self):
        lot = samples.is_lot(TWO)
        index = samples.is_below(2)
        for function in (pieces_in, area_of):
            check_refusals(self, function, {"lists": TWO, "lot": ROUND}, {"lot": lot})
            check_calls(self, function, {"lists": TWO, "lot": ROUND})
        check_refusals(self, lot_of, {"lists": TWO, "pieces": ((1, 0), (0, 1), (1, 0))},
                       {"pieces": samples.is_kind_tuple(TWO)})
        check_calls(self, lot_of, {"lists": TWO, "pieces": ((1, 0), (0, 1), (1, 0))})
        check_refusals(self, count_in, {"lists": TWO, "lot": ROUND, "a": 1, "b": 0}, {"lot": lot, "a": index, "b": index})
        check_calls(self, count_in, {"lists": TWO, "lot": ROUND, "a": 1, "b": 0})
        check_refusals(self, lot_plus, {"lists": TWO, "lot": ROUND, "other": ROUND}, {"lot": lot, "other": lot})
        check_calls(self, lot_plus, {"lists": TWO, "lot": ROUND, "other": ROUND})
        check_refusals(self, lot_minus, {"lists": TWO, "lot": ROUND, "other": ((0, 1, 1),)}, {
            "lot": lambda thing: lot(thing), "other": lambda thing: lot(thing)
            and all([count_in(TWO, ROUND, a, b) >= many for a, b, many in thing])})
        check_calls(self, lot_minus, {"lists": TWO, "lot": ROUND, "other": ((0, 1, 1),)})
        check_refusals(self, lot_times, {"lists": TWO, "lot": ROUND, "many": 1}, {"lot": lot, "many": samples.is_number})
        check_calls(self, lot_times, {"lists": TWO, "lot": ROUND, "many": 7})

    def test_refusals_of_split_kind(self):
        given = {"lists": THREE, "lot": ((2, 1, 2),), "kind": (2, 1), "lesser": (1, 0), "many": 1}
        check_refusals(self, split_kind, given, {
            "lot": samples.is_lot(THREE), "kind": samples.is_kind(THREE),
            "lesser": lambda thing: samples.is_kind(THREE)(thing) and thing != (2, 1) and thing[1] <= 1,
            "many": lambda thing: samples.is_number(thing) and thing <= 2})
        check_calls(self, split_kind, given)
        self.assertEqual(refusal_of(lambda: split_kind(THREE, (), (2, 1), (1, 0), 1)), ("many", -1))


if __name__ == "__main__":
    unittest.main()
