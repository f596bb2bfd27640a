"""Point 17: lists, lots, stocks and sets of kinds in other forms."""

import unittest

from onesheetmore.kinds import is_lists, is_lot
from onesheetmore.listforms import (
    cut_lists, cut_to_lot, turned_kinds, turned_lists, turned_lot, turned_stock, used_lists)
from onesheetmore.lots import area_of
from samples import ODD, ONE_SIZE, ROUND, SIX, STOCK, THIRTY, THREE, TWO, check_calls, check_refusals
import samples

LOTS = [(), ((0, 0, 1),), ROUND, ((0, 2, 3), (2, 0, 1)), ((2, 1, 5),), ((1, 1, 1), (1, 2, 2)), ((2, 2, THIRTY),)]


class ListformsTest(unittest.TestCase):
    def test_examples(self):
        self.assertEqual(
            [turned_lot(THREE, ((0, 1, 2), (1, 0, 3))), cut_to_lot(THREE, ROUND), used_lists(THREE, ((2, 0, 5),))],
            [((0, 1, 3), (1, 0, 2)), ((1, 2), (1, 2)), (((4,), (1,)), ((0, 0, 5),))])

    def test_turned(self):
        self.assertEqual(turned_lists(((1, 2), (3, 6, 12))), ((3, 6, 12), (1, 2)))
        self.assertEqual(turned_stock(((4, 1, 2), (3, 2, 1), (4, 1, 2))), ((1, 4, 2), (2, 3, 1), (1, 4, 2)))
        self.assertEqual(turned_stock(()), ())
        self.assertEqual(turned_kinds(THREE, ((0, 2), (1, 0), (2, 1))), ((0, 1), (1, 2), (2, 0)))
        self.assertEqual([turned_kinds(THREE, ()), turned_lot(THREE, ())], [(), ()])
        for lot in LOTS:
            turned = turned_lot(THREE, lot)
            self.assertTrue(is_lot(turned_lists(THREE), turned))
            self.assertEqual(turned_lot(turned_lists(THREE), turned), lot)

    def test_cut_lists(self):
        for wide in range(1, 7):
            for high in range(1, 7):
                self.assertEqual(cut_lists(SIX, wide, high), (SIX[0][:wide], SIX[1][:high]))
        self.assertEqual(cut_lists(ONE_SIZE, 1, 1), ONE_SIZE)

    def test_cut_to_lot(self):
        self.assertEqual(cut_to_lot(SIX, ()), ((1,), (3,)))
        self.assertEqual(cut_to_lot(SIX, ((0, 3, 1), (2, 1, 1))), ((1, 2, 4), (3, 6, 18, 36)))
        self.assertEqual(cut_to_lot(ODD, ((1, 0, 1),)), ((1, 3), (1,)))
        for lot in LOTS:
            self.assertTrue(is_lot(cut_to_lot(THREE, lot), lot))
            self.assertEqual(area_of(cut_to_lot(THREE, lot), lot), area_of(THREE, lot))

    def test_used_lists(self):
        self.assertEqual(used_lists(SIX, ()), (((1,), (3,)), ()))
        self.assertEqual(used_lists(SIX, ((1, 5, 2), (1, 0, 1))[::-1]), (((2,), (3, 144)), ((0, 0, 1), (0, 1, 2))))
        self.assertEqual(used_lists(SIX, ((0, 4, 7), (3, 2, 1), (5, 4, 2))),
                         (((1, 8, 32), (18, 72)), ((0, 1, 7), (1, 0, 1), (2, 1, 2))))
        for lot in LOTS:
            lists, anew = used_lists(THREE, lot)
            self.assertTrue(is_lists(lists) and is_lot(lists, anew))
            self.assertEqual(area_of(lists, anew), area_of(THREE, lot))

    def test_refusals(self):
        for function in (turned_lot, cut_to_lot, used_lists):
            for lists in (TWO, THREE):
                check_refusals(self, function, {"lists": lists, "lot": ROUND}, {"lot": samples.is_lot(lists)})
                check_calls(self, function, {"lists": lists, "lot": ROUND})
        check_refusals(self, turned_kinds, {"lists": TWO, "kinds": ((0, 1), (1, 0))}, {"kinds": samples.is_kinds(TWO)})
        check_refusals(self, cut_lists, {"lists": THREE, "wide": 1, "high": 3}, {
            "wide": lambda thing: samples.is_count(thing) and thing <= 3,
            "high": lambda thing: samples.is_count(thing) and thing <= 3})
        check_refusals(self, cut_lists, {"lists": ((1, 2, 4, 8), (1,)), "wide": 2, "high": 1}, {
            "wide": lambda thing: samples.is_count(thing) and thing <= 4,
            "high": lambda thing: samples.is_count(thing) and thing <= 1})
        check_calls(self, cut_lists, {"lists": THREE, "wide": 1, "high": 3})
        check_calls(self, turned_kinds, {"lists": THREE, "kinds": ((0, 1), (1, 0))})
        check_calls(self, turned_lists, {"lists": THREE})
        check_calls(self, turned_stock, {"stock": STOCK})


if __name__ == "__main__":
    unittest.main()
