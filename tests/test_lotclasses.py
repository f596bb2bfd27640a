"""Point 22: a lot with its lists."""

import unittest

from onesheetmore.kinds import is_kind
from onesheetmore.lotclasses import Lot
from samples import ANY, ODD, ROUND, THIRTY, THREE, TWO, changed, check_refusals, refusal_of
import samples


class LotTest(unittest.TestCase):
    def test_examples(self):
        some = Lot(TWO, ROUND)
        more = some + Lot(TWO, ((1, 1, 1),))
        self.assertEqual([more.entries(), len(more), more.area(), more - some == some],
                         [((0, 1, 2), (1, 0, 2), (1, 1, 1)), 3, 12, False])

    def test_methods(self):
        some = Lot(THREE, ((0, 1, 2), (2, 1, THIRTY)))
        self.assertEqual([some.area(), some.pieces(), len(some)], [4 + 8 * THIRTY, 2 + THIRTY, 2])
        self.assertEqual(some.times(3).entries(), ((0, 1, 6), (2, 1, 3 * THIRTY)))
        self.assertEqual(some.times(0), Lot(THREE, ()))
        self.assertEqual(some.split((2, 1), (2, 0), THIRTY).entries(), ((0, 1, 2), (2, 0, 2 * THIRTY)))
        self.assertEqual(some.split(kind=(0, 1), lesser=(0, 0), many=0), some)
        self.assertIsInstance(some.times(many=1), Lot)
        self.assertEqual(some.entries(), ((0, 1, 2), (2, 1, THIRTY)))
        self.assertEqual([len(Lot(TWO, ())), Lot(TWO, ()).pieces(), Lot(TWO, ()).area()], [0, 0, 0])

    def test_plus_and_minus(self):
        some, empty = Lot(TWO, ROUND), Lot(TWO, ())
        self.assertEqual(some + empty, some)
        self.assertEqual(some - some, empty)
        self.assertEqual((some + some - some).entries(), ROUND)
        self.assertIsInstance(some + some, Lot)
        self.assertEqual(some.entries(), ROUND)
        self.assertEqual(refusal_of(lambda: empty - some), ("other", -1))
        self.assertEqual(refusal_of(lambda: some - (some + some)), ("other", -1))
        for other in ANY + [Lot(ODD, ROUND), Lot(THREE, ROUND)]:
            self.assertEqual(refusal_of(lambda: some + other), ("other", -1))
            self.assertEqual(refusal_of(lambda: some - other), ("other", -1))

    def test_equal(self):
        self.assertTrue(Lot(TWO, ROUND) == Lot(TWO, ROUND))
        for other in ANY + [ROUND, Lot(ODD, ROUND), Lot(THREE, ROUND), Lot(TWO, ROUND[:1])]:
            self.assertIs(Lot(TWO, ROUND) == other, False)
            self.assertIs(Lot(TWO, ROUND) != other, True)

    def test_contains(self):
        some = Lot(THREE, ROUND)
        for thing in ANY + changed((0, 1)) + changed((1, 0)) + list(ROUND) + [(2, 2), (3, 0), (0, 3), some]:
            self.assertIs(thing in some, is_kind(THREE, thing) and thing in ((0, 1), (1, 0)))
        self.assertTrue((0, 1) in some and (1, 0) in some)
        self.assertTrue((2, 2) in Lot(THREE, ((2, 2, 1),)))
        self.assertFalse((False, True) in some or [0, 1] in some)

    def test_refusals(self):
        check_refusals(self, Lot, {"lists": TWO, "lot": ROUND}, {"lot": samples.is_lot(TWO)})
        some = Lot(THREE, ((2, 1, 2),))
        check_refusals(self, some.times, {"many": 1}, {"many": samples.is_number})
        check_refusals(self, some.split, {"kind": (2, 1), "lesser": (1, 0), "many": 1}, {
            "kind": lambda thing: samples.is_kind(THREE)(thing),
            "lesser": lambda thing: samples.is_kind(THREE)(thing) and thing != (2, 1) and thing[1] <= 1,
            "many": lambda thing: samples.is_number(thing) and thing <= 2})


if __name__ == "__main__":
    unittest.main()
