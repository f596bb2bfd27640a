"""Points 49 to 52: layings changed, written and read; the class of layings."""

import random
import unittest

from onesheetmore.boxes import box_first
from onesheetmore.errors import InvalidText
from onesheetmore.layingclasses import Laying
from onesheetmore.layingforms import exchanged, turned_laying
from onesheetmore.layingreadings import read_laying
from onesheetmore.layingtexts import laying_line
from onesheetmore.listforms import turned_lists, turned_stock
from onesheetmore.lookups import laying_lot, nth_piece, piece_at, piece_number
from onesheetmore.rests import rests_of, used_sheets
from onesheetmore.sheetlayings import on_sheet
from layingsamples import LAID, is_laying_of, pieces_of, random_layings, striped
from samples import (
    ANY, ODD, STOCK, THIRTY, THREE, TWO, all_kinds, changed, check_calls, check_refusals, check_same, refusal_of)
from test_boxes import is_box_of
import samples

GIVEN = {"lists": TWO, "stock": STOCK, "laying": LAID}
LAYING = {"laying": is_laying_of(TWO, STOCK)}


class LayingFormsTest(unittest.TestCase):
    def test_examples(self):
        self.assertEqual(turned_laying(TWO, STOCK, LAID),
                         ((0, 1, 0, (0, 1), (0, 2), (0, 1)), (1, 0, 1, (0, 2), (0, 1), (1, 2))))
        laying = exchanged(TWO, ((4, 4, 2),), ((1, 1, 0, (0, 1), (0, 1), (0, 1)),), 0, 0, 1)
        self.assertEqual(used_sheets(TWO, ((4, 4, 2),), laying), (1,))
        self.assertEqual(pieces_of(laying), {(1, 1, 0, 1, 0, 0)})

    def test_turned(self):
        for lists, stock, laying in random_layings(100, 9):
            turned = turned_laying(lists, stock, laying)
            self.assertTrue(is_laying_of(turned_lists(lists), turned_stock(stock))(turned))
            self.assertEqual(pieces_of(turned), {(b, a, sort, sheet, row, column)
                                                 for a, b, sort, sheet, column, row in pieces_of(laying)})
            self.assertEqual(turned, tuple([(b, a, sort, sheets, rows, columns)
                                            for a, b, sort, sheets, columns, rows in laying]))
            self.assertEqual(turned_laying(turned_lists(lists), turned_stock(stock), turned), laying)

    def test_exchanged(self):
        seen = 0
        for lists, stock, laying in random_layings(100, 10):
            for sort, (_, _, many) in enumerate(stock):
                for one in range(many):
                    for other in range(many):
                        told = exchanged(lists, stock, laying, sort, one, other)
                        self.assertTrue(is_laying_of(lists, stock)(told))
                        place = {one: other, other: one}
                        expected = {(a, b, its, place.get(sheet, sheet) if its == sort else sheet, column, row)
                                    for a, b, its, sheet, column, row in pieces_of(laying)}
                        self.assertEqual(pieces_of(told), expected)
                        seen += expected != pieces_of(laying)
        self.assertGreater(seen, 50)

    def test_exchanged_large(self):
        lists, stock, laying = striped(300)
        told = exchanged(lists, stock, laying, 0, 3, THIRTY // 2)
        self.assertEqual(laying_lot(lists, stock, told), laying_lot(lists, stock, laying))
        self.assertEqual(on_sheet(lists, stock, told, 0, THIRTY // 2), ())
        self.assertEqual(len(on_sheet(lists, stock, told, 0, 3)), 300)
        self.assertTrue(Laying(lists, stock, exchanged(lists, stock, laying, 0, 7, 8)) == Laying(lists, stock, laying))

    def test_refusals(self):
        check_refusals(self, turned_laying, GIVEN, LAYING)
        check_refusals(self, exchanged, {**GIVEN, "sort": 1, "one": 0, "other": 1}, {
            **LAYING, "sort": samples.is_below(2), "one": samples.is_below(2), "other": samples.is_below(2)})
        self.assertEqual(refusal_of(lambda: exchanged(TWO, STOCK, LAID, 0, 0, 1)), ("other", -1))
        self.assertEqual(refusal_of(lambda: exchanged(TWO, STOCK, LAID, 0, 1, 1)), ("one", -1))
        check_calls(self, turned_laying, GIVEN)
        check_calls(self, exchanged, {**GIVEN, "sort": 1, "one": 1, "other": 0})


class LayingTextsTest(unittest.TestCase):
    def assert_bad(self, text, field, lists=TWO, stock=STOCK):
        with self.assertRaises(InvalidText) as caught:
            read_laying(lists, stock, text)
        self.assertEqual((caught.exception.line, caught.exception.field), (0, field), text)

    def test_examples(self):
        self.assertEqual(laying_line(TWO, STOCK, LAID), "1,0:0:0*1:0*1:0*2 0,1:1:0*2:1*2:0*1")
        self.assertEqual(read_laying(TWO, STOCK, "0,1:1:0*2:1*2:0*1"), ((0, 1, 1, (0, 2), (1, 2), (0, 1)),))
        self.assert_bad("0,1:1:0*2:1*2:0*1 1,0:0:0*1:0*1:0*02", 1)

    def test_written_and_read(self):
        for lists, stock, laying in random_layings(150, 12) + [striped(60)]:
            line = laying_line(lists, stock, laying)
            self.assertEqual(read_laying(lists, stock, line), laying)
            self.assertEqual(line.split(" ") if line else [], [
                f"{a},{b}:{sort}:" + ":".join([f"{start}*{many}" for start, many in spans])
                for a, b, sort, *spans in laying])
        self.assertEqual([laying_line(TWO, STOCK, ()), laying_line(TWO, (), ())], ["", ""])
        self.assertEqual(read_laying(TWO, (), ""), ())

    def test_words_that_are_no_boxes(self):
        good = "1,0:0:0*1:0*1:0*2"
        bad = ["", "1,0", "1,0:0", good + ":", ":" + good, good + ":0*1", "1,0:0:0*1:0*1", good[:-1], good[1:], good + "*1",
               "1;0" + good[3:], "1,0,0" + good[3:], "1" + good[3:], "01,0" + good[3:], "1,00" + good[3:], "-1,0" + good[3:],
               "+1,0" + good[3:], "1,0:00" + good[5:], "1,0:-0" + good[5:], "1,0:" + good[5:], "1,0:0:01*1:0*1:0*2",
               "1,0:0:0*0:0*1:0*2", "1,0:0:0*1:0*1:0*0", "1,0:0:0*1:0*1:*2", "1,0:0:0*1:0*1:0*", "1,0:0:0*1:0*1:0",
               "1,0:0:0*1:0*1:0x2", "1,0:0:0*1:0*1:0*2:", "1,0:0:0*1:0*1:0**2", "a,0" + good[3:], "1,0:0:0*1:0*1:0*2.0",
               "2,0" + good[3:], "1,2" + good[3:], "1,0:2" + good[5:], "1,0:0:0*2:0*1:0*2", "1,0:0:1*1:0*1:0*2",
               "1,0:0:0*1:1*1:0*2", "1,0:0:0*1:0*1:1*2", "1,0:0:0*1:0*1:0*3", "|", ",:::*:*:*", "9" * 3900]
        other = "0,1:1:0*2:1*2:0*1"
        for word in bad:
            self.assert_bad(word + " " + other if word == "" else word, 0)
            self.assert_bad(other + " " + word, 1)
            self.assert_bad(other + " " + word + " " + word, 1)
        for text, field in ((" ", 0), (good + " ", 1), (" " + good, 0), (good + "  " + other, 1)):
            self.assert_bad(text, field)
        self.assert_bad("0,0:0:0*1:0*1:0*1", 0, stock=())

    def test_words_that_meet(self):
        good, other = "1,0:0:0*1:0*1:0*2", "0,1:1:0*2:1*2:0*1"
        self.assert_bad(good + " " + good, 1)
        self.assert_bad(good + " " + other + " 0,0:0:0*1:1*1:1*1", 2)
        self.assert_bad(good + " 0,0:0:0*1:1*1:1*1 x", 1)
        self.assertEqual(len(read_laying(TWO, STOCK, good + " 0,0:0:0*1:2*1:1*1 " + other)), 3)

    def test_refusals(self):
        check_refusals(self, laying_line, GIVEN, LAYING)
        given = {"lists": TWO, "stock": STOCK, "text": "0,1:1:0*2:1*2:0*1"}
        check_refusals(self, read_laying, given, {"text": samples.is_text})
        check_calls(self, laying_line, GIVEN)
        check_calls(self, read_laying, given)


def in_other_boxes(lists, stock, laying, rng):
    """The same pieces in other boxes, in another sequence."""
    boxes = []
    for box in laying:
        first, others = box_first(lists, stock, box, rng.randint(0, box[3][1] * box[4][1] * box[5][1]))
        boxes.extend([*first, *others])
    rng.shuffle(boxes)
    return tuple(boxes)


class LayingClassTest(unittest.TestCase):
    def test_example(self):
        self.assertTrue(Laying(TWO, STOCK, LAID) == Laying(TWO, STOCK, (LAID[1], LAID[0])))

    def test_equal(self):
        rng = random.Random(13)
        for lists, stock, laying in random_layings(120, 14):
            one = Laying(lists, stock, laying)
            self.assertIs(one == Laying(lists, stock, in_other_boxes(lists, stock, laying, rng)), True)
            for k in range(len(laying)):
                self.assertIs(one == Laying(lists, stock, laying[:k] + laying[k + 1:]), False)
                first, others = box_first(lists, stock, laying[k], 1)
                self.assertIs(Laying(lists, stock, laying[:k] + others + laying[k + 1:]) == one, False)
        pairs = random_layings(40, 15)
        for lists, stock, laying in pairs:
            for its_lists, its_stock, other in pairs:
                same = (lists, stock) == (its_lists, its_stock) and pieces_of(laying) == pieces_of(other)
                self.assertIs(Laying(lists, stock, laying) == Laying(its_lists, its_stock, other), same)
                self.assertIs(Laying(lists, stock, laying) != Laying(its_lists, its_stock, other), not same)

    def test_kinds_of_pieces_count(self):
        ground = [((1, 0, 0, (0, 1), (0, 1), (0, 1)),), ((0, 0, 0, (0, 1), (0, 2), (0, 1)),),
                  ((0, 0, 0, (0, 1), (0, 1), (0, 1)),), ((0, 0, 0, (0, 1), (1, 1), (0, 1)),),
                  ((0, 0, 1, (0, 1), (0, 1), (0, 1)),), ((0, 0, 1, (1, 1), (0, 1), (0, 1)),)]
        for i, one in enumerate(ground):
            for k, other in enumerate(ground):
                self.assertIs(Laying(TWO, STOCK, one) == Laying(TWO, STOCK, other), i == k)
        unit = ((0, 0, 0, (0, 1), (0, 1), (0, 1)),)
        self.assertIs(Laying(TWO, STOCK, unit) == Laying(THREE, STOCK, unit), False)
        self.assertIs(Laying(TWO, STOCK, unit) == Laying(TWO, STOCK[:1], unit), False)

    def test_other_values(self):
        one = Laying(TWO, STOCK, LAID)
        for other in ANY + [LAID, (TWO, STOCK, LAID), Laying]:
            self.assertIs(one == other, False)
            self.assertIs(one != other, True)

    def test_methods(self):
        for lists, stock, laying in random_layings(60, 16):
            one = Laying(lists, stock, laying)
            self.assertIs(one.boxes, laying)
            self.assertEqual(one.lot_of_it(), laying_lot(lists, stock, laying))
            self.assertEqual(one.rests(), rests_of(lists, stock, laying))
            self.assertEqual(one.used(), used_sheets(lists, stock, laying))
            for kind in all_kinds(lists):
                for number in range(3):
                    check_same(self, lambda: one.nth(kind, number), lambda: nth_piece(lists, stock, laying, kind, number))
                    share = (0, 0, number, 0)
                    check_same(self, lambda: one.number(kind, share),
                               lambda: piece_number(lists, stock, laying, kind, share))
                    check_same(self, lambda: one.at_unit(0, 0, number, *kind[1:]),
                               lambda: piece_at(lists, stock, laying, 0, 0, number, *kind[1:]))
            for sort, sheet in ((0, 0), (0, 1), (1, 0), (2, 2)):
                check_same(self, lambda: one.on_sheet(sort, sheet), lambda: on_sheet(lists, stock, laying, sort, sheet))

    def test_large(self):
        lists, stock, laying = striped(300)
        self.assertIs(Laying(lists, stock, laying) == Laying(lists, stock, laying[::-1]), True)
        self.assertIs(Laying(lists, stock, laying) == Laying(lists, stock, laying[1:]), False)

    def test_refusals(self):
        check_refusals(self, Laying, {"lists": TWO, "stock": STOCK, "boxes": LAID}, {"boxes": is_laying_of(TWO, STOCK)})
        one = Laying(lists=TWO, stock=STOCK, boxes=LAID)
        kind = samples.is_kind(TWO)
        check_refusals(self, one.nth, {"kind": (0, 1), "number": 1}, {"kind": kind, "number": samples.is_below(4)})
        check_refusals(self, one.number, {"kind": (0, 1), "share": (1, 1, 2, 0)}, {
            "kind": kind, "share": samples.is_tuple_of(
                4, samples.is_below(2), samples.is_below(2), samples.is_below(4), samples.is_below(2))})
        check_refusals(self, one.at_unit, {"sort": 1, "sheet": 1, "x": 3, "y": 0}, {
            "sort": samples.is_below(2), "sheet": samples.is_below(2), "x": samples.is_below(4), "y": samples.is_below(4)})
        check_refusals(self, one.on_sheet, {"sort": 1, "sheet": 1}, {
            "sort": samples.is_below(2), "sheet": samples.is_below(2)})
        self.assertIs(one.boxes, LAID)
        for thing in changed(LAID):
            if not is_laying_of(ODD, STOCK)(thing):
                self.assertEqual(refusal_of(lambda: Laying(ODD, STOCK, thing)), ("boxes", -1))
        self.assertTrue(is_box_of(TWO, STOCK)(LAID[0]))


if __name__ == "__main__":
    unittest.main()
