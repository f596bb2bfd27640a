"""Points 43 to 45: layings of lots, and their checker."""

import random
import unittest

from onesheetmore.boxes import box_count
from onesheetmore.errors import InvalidPaper, Refused
from onesheetmore.further import most_more
from onesheetmore.layingchecker import lets_laying
from onesheetmore.layings import lay_by_heights, lay_by_widths
from onesheetmore.lookups import laying_lot
from onesheetmore.lots import lot_plus
from onesheetmore.readings import refuses
from onesheetmore.rests import free_shares, rests_of
from onesheetmore.rooms import rooms_by_heights
from onesheetmore.staircases import is_staircase
from onesheetmore.verdicts import goes_in
from layingsamples import LAID, is_laying_of, lot_of_pieces, pieces_of, random_layings, striped
from samples import (
    ANY, ODD, ONE_SIZE, ROUND, SIDES, SIX, STOCK, THIRTY, THREE, TWELVE, TWO, all_kinds, changed, check_calls,
    check_refusals)
from test_boxes import BOX, boxes_of, cells_in
from test_rooms import CASES
import samples

FOUR_SIZES = [((1, 2, 4, 8), (1, 2, 4, 8)), ((1, 2, 6, 18), (1, 3, 6, 12)), ((2, 6, 12, 60), (5, 10, 20, 100))]


def random_lot(lists, stock, rng, tries):
    """A lot that goes in; now and then all of what there is room for."""
    lot = ()
    for _ in range(tries):
        kind = rng.choice(all_kinds(lists))
        most = most_more(lists, stock, lot, *kind)
        many = most if rng.random() < 0.2 else rng.randint(0, most) // rng.randint(1, 4)
        lot = lot_plus(lists, lot, ((*kind, many),) if many else ())
    return lot


def random_stock(lists, rng):
    return tuple([
        (rng.randint(1, 3 * lists[0][-1]), rng.randint(1, 3 * lists[1][-1]), rng.randint(1, 3))
        for _ in range(rng.randint(1, 4))])


def random_lots(many, seed):
    rng = random.Random(seed)
    for _ in range(many):
        lists = rng.choice([TWO, THREE, ODD, SIDES, ONE_SIZE, ((1, 2, 6), (1, 4)), ((1, 2), (2, 4, 8))])
        stock = random_stock(lists, rng)
        yield lists, stock, random_lot(lists, stock, rng, 6)


def packed_lots():
    """Lots of counts of very many figures, on sheets of twelve figures."""
    rng = random.Random(44)
    for lists in FOUR_SIZES:
        for figures in (6, 12):
            stock = tuple([
                (rng.randint(10 ** (figures - 1), 10 ** figures - 1), rng.randint(10 ** (figures - 1), 10 ** figures - 1),
                 rng.randint(1, THIRTY)) for _ in range(4)])
            lot = ()
            for kind in all_kinds(lists)[::-1]:
                most = most_more(lists, stock, lot, *kind)
                lot = lot_plus(lists, lot, ((*kind, most // 3 + 1),))
            yield lists, stock, lot


class LayingsTest(unittest.TestCase):
    def test_examples(self):
        self.assertEqual(laying_lot(TWO, STOCK, lay_by_heights(TWO, STOCK, ROUND)), ROUND)
        with self.assertRaises(Refused) as caught:
            lay_by_heights(TWO, ((3, 3, 1),), ROUND)
        self.assertEqual(caught.exception.staircase, ("heights", (0, 1)))

    def test_small_lots(self):
        seen = 0
        for lists, stock, lot in random_lots(250, 43):
            for function in (lay_by_heights, lay_by_widths):
                laying = function(lists, stock, lot)
                self.assertTrue(is_laying_of(lists, stock)(laying), (lists, stock, lot, laying))
                self.assertEqual(lot_of_pieces(pieces_of(laying)), lot)
                self.assertLessEqual(len(laying), 300)
            seen += len(lot) > 2
        self.assertGreater(seen, 50)

    def test_what_is_left(self):
        for lists, stock, lot in random_lots(150, 11):
            laying = lay_by_heights(lists, stock, lot)
            for b, (_, _, left) in enumerate(rooms_by_heights(lists, stock, lot)):
                taller = tuple([box for box in laying if box[1] >= b])
                told = tuple([len(free_shares(lists, stock, taller, i, b)) for i in range(len(lists[0]))])
                self.assertEqual(told, left, (lists, stock, lot))

    def test_nothing_leaves_more(self):
        for lists, stock, laying in random_layings(200, 44):
            lot = laying_lot(lists, stock, laying)
            for b, (_, _, left) in enumerate(rooms_by_heights(lists, stock, lot)):
                taller = tuple([box for box in laying if box[1] >= b])
                for i in range(len(lists[0])):
                    self.assertLessEqual(len(free_shares(lists, stock, taller, i, b)), left[i])

    def test_refused(self):
        found = set()
        for lists, stock, lot in CASES:
            for function, way in ((lay_by_heights, "heights"), (lay_by_widths, "widths")):
                found.add(goes_in(lists, stock, lot))
                if goes_in(lists, stock, lot):
                    self.assertEqual(lets_laying(lists, stock, function(lists, stock, lot)), lot)
                    continue
                with self.assertRaises(Refused) as caught:
                    function(lists, stock, lot)
                staircase = caught.exception.staircase
                self.assertTrue(is_staircase(lists, staircase) and staircase[0] == way)
                self.assertTrue(refuses(lists, stock, lot, staircase))
        self.assertEqual(found, {True, False})

    def test_empty(self):
        for function in (lay_by_heights, lay_by_widths):
            for lists in (TWO, SIX):
                self.assertEqual(function(lists, (), ()), ())
                self.assertEqual(function(lists, STOCK, ()), ())
            with self.assertRaises(Refused):
                function(TWO, (), ROUND)

    def test_large(self):
        for lists, stock, lot in packed_lots():
            for function in (lay_by_heights, lay_by_widths):
                laying = function(lists, stock, lot)
                self.assertEqual(lets_laying(lists, stock, laying), lot)
                self.assertLessEqual(len(laying), 300)
            rows = rooms_by_heights(lists, stock, lot)
            laying = lay_by_heights(lists, stock, lot)
            # The rest in smallest shares is what rooms and wants leave at the lowest height.
            free = sum([box_count(lists, stock, box) for box in rests_of(lists, stock, laying)])
            self.assertEqual(free, rows[0][0][0] - rows[0][1][0])
        all_of_it = ((1, 1, (TWELVE // 2) ** 2 * THIRTY),)
        laying = lay_by_heights(TWO, ((TWELVE, TWELVE, THIRTY),), all_of_it)
        self.assertEqual(lets_laying(TWO, ((TWELVE, TWELVE, THIRTY),), laying), all_of_it)

    def test_refusals(self):
        for function in (lay_by_heights, lay_by_widths):
            given = {"lists": TWO, "stock": STOCK, "lot": ROUND}
            check_refusals(self, function, given, {"lot": samples.is_lot(TWO)})
            check_calls(self, function, given)
            self.assertIs(type(function(**given)), tuple)


class LayingCheckerTest(unittest.TestCase):
    def assert_fault(self, thing, word, at, lists=TWO, stock=STOCK):
        before = repr(thing)
        with self.assertRaises(InvalidPaper) as caught:
            lets_laying(lists, stock, thing)
        self.assertEqual((caught.exception.word, caught.exception.at), (word, at))
        self.assertEqual(repr(thing), before)

    def test_examples(self):
        self.assertEqual(lets_laying(TWO, STOCK, LAID), ((0, 1, 4), (1, 0, 2)))
        self.assert_fault(LAID + ((1, 1, 1, (0, 1), (0, 1), (0, 1)),), "overlap", (2, 1))
        self.assert_fault(((1, 0, 0, (0, 1), (1, 1), (0, 1)),), "inside", 0)

    def test_no_laying(self):
        for thing in (None, True, 0, "", "()", [], list(LAID), [()]):
            self.assert_fault(thing, "laying", -1)
        self.assertEqual(lets_laying(TWO, STOCK, ()), ())
        self.assertEqual(lets_laying(TWO, (), ()), ())

    def test_no_box(self):
        good = LAID[0]
        bad = [None, 0, "", (), [], list(good), good[:5], good + (0,), (good,), (True, 0, *good[2:]),
               (1, False, *good[2:]), (2, 0, *good[2:]), (1, 2, *good[2:]), (-1, 0, *good[2:]), ("1", 0, *good[2:]),
               (1, 0, True, *good[3:]), (1, 0, -1, *good[3:]), (1, 0, None, *good[3:]), (1, 0, "0", *good[3:])]
        for at in (3, 4, 5):
            for span in (None, 0, (), (0,), (0, 0), (0, -1), (-1, 1), (True, 1), (0, True), [0, 1], (0, 1, 1), ("0", 1)):
                bad.append((*good[:at], span, *good[at + 1:]))
        for thing in bad:
            self.assert_fault((thing,), "box", 0)
            self.assert_fault((good, thing, None), "box", 1)
            self.assert_fault((*LAID, thing), "box", 2)

    def test_not_inside(self):
        good = LAID[0]
        outside = [(1, 0, 2, *good[3:]), (1, 0, 10 ** 59, *good[3:]), (1, 0, 0, (1, 1), *good[4:]),
                   (1, 0, 0, (0, 2), *good[4:]), (1, 0, 0, (0, 1), (0, 2), (0, 1)), (1, 0, 0, (0, 1), (0, 1), (1, 2)),
                   (1, 0, 0, (0, 1), (0, 1), (0, 10 ** 59)), (1, 1, 0, (0, 1), (0, 1), (0, 2)),
                   (0, 0, 1, (2, 1), (0, 1), (0, 1)), (0, 0, 1, (0, 1), (4, 1), (0, 1)), (0, 0, 1, (0, 1), (0, 1), (4, 1))]
        for thing in outside:
            self.assert_fault((thing,), "inside", 0)
            self.assert_fault((good, thing, None), "inside", 1)
            self.assert_fault((thing, None), "inside", 0)
            # An overlap comes behind all entries.
            self.assert_fault((good, good, thing), "inside", 2)
        self.assert_fault(((0, 0, 0, (0, 1), (0, 1), (0, 1)),), "inside", 0, stock=())

    def test_overlaps(self):
        unit = (0, 0, 1, (1, 1), (3, 1), (3, 1))
        self.assert_fault((LAID[0], LAID[0], LAID[0]), "overlap", (1, 0))
        self.assert_fault((*LAID, unit, LAID[1], unit), "overlap", (3, 1))
        self.assert_fault((unit, *LAID, unit, LAID[1]), "overlap", (3, 0))
        self.assert_fault(((1, 1, 1, (0, 2), (0, 2), (0, 2)), (0, 0, 1, (1, 1), (3, 1), (3, 1))), "overlap", (1, 0))
        self.assertEqual(lets_laying(TWO, STOCK, (*LAID, unit)), ((0, 0, 1), (0, 1, 4), (1, 0, 2)))

    def test_beside_cells(self):
        rng = random.Random(45)
        found = set()
        for lists, stock, laying in random_layings(200, 46):
            boxes = boxes_of(lists, stock)
            for thing in [laying] + [laying + (rng.choice(boxes),) for _ in range(3) if boxes]:
                cells = [cells_in(lists, box) for box in thing]
                meeting = [(i, k) for i in range(len(thing)) for k in range(i) if cells[i] & cells[k]]
                found.add(meeting == [])
                if meeting:
                    self.assert_fault(thing, "overlap", meeting[0], lists, stock)
                else:
                    self.assertEqual(lets_laying(lists, stock, thing), lot_of_pieces(pieces_of(thing)))
        self.assertEqual(found, {True, False})

    def test_any_value(self):
        for thing in ANY + changed(LAID):
            if is_laying_of(TWO, STOCK)(thing):
                self.assertEqual(lets_laying(TWO, STOCK, thing), lot_of_pieces(pieces_of(thing)))
            else:
                with self.assertRaises(InvalidPaper):
                    lets_laying(TWO, STOCK, thing)

    def test_large(self):
        lists, stock, laying = striped(300)
        self.assertEqual(lets_laying(lists, stock, laying), ((0, 1, 600 * 10 ** 11 * (THIRTY - 10)),))
        self.assert_fault(laying + ((0, 0, 0, (THIRTY - 4, 1), (0, 1), (10, 1)),), "overlap", (300, 0), lists, stock)
        self.assertEqual(lets_laying(THREE, STOCK, (BOX,)), ((1, 1, 4),))
        check_calls(self, lets_laying, {"lists": TWO, "stock": STOCK, "thing": LAID})


if __name__ == "__main__":
    unittest.main()
