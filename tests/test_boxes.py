"""Points 6, 29 and 30: boxes of shares, and those of all top shares."""

import unittest
from itertools import product

from onesheetmore.boxes import box_count, box_finer, box_first, box_ground, boxes_meet, is_box
from onesheetmore.shares import top_shares
from onesheetmore.sharespots import ground_of, top_over
from onesheetmore.stockboxes import whole_boxes
from samples import ANY, ODD, SIDES, STOCK, THIRTY, THREE, TWELVE, TWO, all_kinds, changed, check_calls, check_refusals
import samples

BOX, LOW = (1, 1, 1, (0, 2), (0, 2), (1, 1)), (0, 0, 1, (1, 1), (3, 1), (1, 1))
LARGE = ((TWELVE, TWELVE, THIRTY),)
LARGE_BOX = (0, 1, 0, (1, THIRTY - 1), (5, TWELVE - 5), (0, TWELVE // 2))


def is_box_of(lists, stock):
    def test(thing):
        if not samples.is_tuple_of(6, samples.is_number, samples.is_number, samples.is_below(len(stock)),
                                   samples.is_span, samples.is_span, samples.is_span)(thing):
            return False
        if not samples.is_kind(lists)(thing[:2]):
            return False
        a, b, sort, *spans = thing
        width, height, many = stock[sort]
        limits = (many, width // lists[0][a], height // lists[1][b])
        return all([start + count <= limit for (start, count), limit in zip(spans, limits)])
    return test


def spans_below(many):
    return [(start, count) for start in range(many) for count in range(1, many - start + 1)]


def boxes_of(lists, stock):
    """All boxes of the stock."""
    return [
        (a, b, sort, *spans) for a, b in all_kinds(lists) for sort, (width, height, many) in enumerate(stock)
        for spans in product(spans_below(many), spans_below(width // lists[0][a]), spans_below(height // lists[1][b]))]


def shares_in(box):
    """The (sort, sheet, column, row) of the box's shares, by sheets, columns, rows."""
    sort, spans = box[2], [range(start, start + many) for start, many in box[3:]]
    return [(sort, sheet, column, row) for sheet, column, row in product(*spans)]


def cells_in(lists, box):
    """The single units of ground of the box, with sort and sheet."""
    cells = set()
    for sort, sheet, column, row in shares_in(box):
        left, bottom, right, top = ground_of(lists, *box[:2], column, row)
        cells.update([(sort, sheet, x, y) for x in range(left, right) for y in range(bottom, top)])
    return cells


class BoxesTest(unittest.TestCase):
    def test_examples(self):
        self.assertEqual([is_box(THREE, STOCK, BOX), is_box(THREE, STOCK, list(BOX)), box_count(THREE, STOCK, BOX)],
                         [True, False, 4])
        self.assertEqual([box_ground(THREE, STOCK, BOX), boxes_meet(THREE, STOCK, BOX, LOW)],
                         [(1, 0, 1, 0, 2, 4, 4), False])
        first, others = box_first(THREE, STOCK, (1, 1, 1, (0, 1), (0, 1), (0, 2)), 1)
        self.assertEqual((first, others), (((1, 1, 1, (0, 1), (0, 1), (0, 1)),), ((1, 1, 1, (0, 1), (0, 1), (1, 1)),)))
        self.assertEqual(box_finer(THREE, STOCK, BOX, 1, 0), (1, 0, 1, (0, 2), (0, 2), (2, 2)))

    def test_is_box(self):
        for lists, stock in ((THREE, STOCK), (TWO, STOCK[::-1]), (SIDES, ((7, 3, 2),)), (TWO, ())):
            test = is_box_of(lists, stock)
            things = ANY + changed(BOX) + changed(LOW) + boxes_of(lists, stock)[::97]
            for thing in things + [other for box in boxes_of(lists, stock)[::97] for other in changed(box)]:
                self.assertIs(is_box(lists, stock, thing), test(thing), thing)
        self.assertIs(is_box(THREE, STOCK, (1, 1, True, (0, 1), (0, 1), (0, 1))), False)
        self.assertIs(is_box(THREE, STOCK, (2, 0, 0, (0, 1), (0, 1), (0, 1))), False)
        self.assertIs(is_box(TWO, LARGE, LARGE_BOX), True)
        self.assertIs(is_box(TWO, LARGE, (0, 1, 0, (1, THIRTY), (0, 1), (0, 1))), False)

    def test_count_and_ground(self):
        for lists, stock in ((THREE, STOCK), (SIDES, ((7, 6, 2), (4, 9, 1))), (ODD, ((5, 4, 1),))):
            for box in boxes_of(lists, stock):
                shares = shares_in(box)
                self.assertEqual(box_count(lists, stock, box), len(shares))
                grounds = [ground_of(lists, *box[:2], column, row) for _, _, column, row in shares]
                sheets = [sheet for _, sheet, _, _ in shares]
                self.assertEqual(box_ground(lists, stock, box), (
                    box[2], min(sheets), max(sheets), min([one[0] for one in grounds]), min([one[1] for one in grounds]),
                    max([one[2] for one in grounds]), max([one[3] for one in grounds])))
        self.assertEqual(box_count(TWO, LARGE, LARGE_BOX), (THIRTY - 1) * (TWELVE - 5) * (TWELVE // 2))
        self.assertEqual(box_ground(TWO, LARGE, LARGE_BOX), (0, 1, THIRTY - 1, 5, 0, TWELVE, TWELVE - 1))

    def test_boxes_meet(self):
        found = set()
        for lists, stock in ((TWO, ((3, 2, 2), (2, 2, 1))), (TWO, ((2, 4, 1),)), (SIDES, ((5, 6, 1), (4, 6, 2)))):
            boxes = [(box, cells_in(lists, box)) for box in boxes_of(lists, stock)]
            for (one, its), (other, others) in product(boxes, repeat=2):
                self.assertIs(boxes_meet(lists, stock, one, other), bool(its & others))
                found.add(bool(its & others))
        self.assertEqual(len(found), 2)

    def test_box_first(self):
        for lists, stock in ((THREE, STOCK), (SIDES, ((8, 9, 3),)), (TWO, ((6, 6, 3),))):
            for box in boxes_of(lists, stock)[::7]:
                shares = shares_in(box)
                for many in range(len(shares) + 1):
                    parts = box_first(lists, stock, box, many)
                    self.assertIs(type(parts), tuple)
                    self.assertEqual(len(parts), 2)
                    for part, expected in zip(parts, (shares[:many], shares[many:])):
                        self.assertIs(type(part), tuple)
                        self.assertTrue(all([is_box(lists, stock, one) and one[:3] == box[:3] for one in part]))
                        self.assertEqual(sorted([share for one in part for share in shares_in(one)]), expected)
        count = box_count(TWO, LARGE, LARGE_BOX)
        for many in (0, 1, TWELVE, 10 ** 25 + 7, count - 1, count):
            first, others = box_first(TWO, LARGE, LARGE_BOX, many)
            self.assertEqual(sum([box_count(TWO, LARGE, one) for one in first]), many)
            self.assertEqual(sum([box_count(TWO, LARGE, one) for one in others]), count - many)

    def test_box_finer(self):
        for lists, stock in ((THREE, STOCK), (SIDES, ((7, 6, 2),))):
            for box in boxes_of(lists, stock)[::5]:
                for a, b in all_kinds(lists):
                    if a <= box[0] and b <= box[1]:
                        finer = box_finer(lists, stock, box, a, b)
                        self.assertTrue(is_box(lists, stock, finer) and finer[:2] == (a, b))
                        self.assertEqual(cells_in(lists, finer), cells_in(lists, box))

    def test_refusals(self):
        box = is_box_of(THREE, STOCK)
        given = {"lists": THREE, "stock": STOCK, "box": BOX}
        for function in (box_count, box_ground):
            check_refusals(self, function, given, {"box": box})
            check_calls(self, function, given)
        check_refusals(self, boxes_meet, {**given, "other": LOW}, {"box": box, "other": box})
        check_calls(self, boxes_meet, {**given, "other": LOW})
        check_refusals(self, box_first, {**given, "many": 1}, {"box": box, "many": samples.is_below(5)})
        check_calls(self, box_first, {**given, "many": 3})
        check_refusals(self, box_finer, {**given, "a": 1, "b": 0}, {
            "box": box, "a": samples.is_below(2), "b": samples.is_below(2)})
        check_calls(self, box_finer, {**given, "a": 1, "b": 0})
        check_calls(self, is_box, {"lists": THREE, "stock": STOCK, "thing": [BOX]})
        check_calls(self, is_box, {"lists": THREE, "stock": STOCK, "thing": BOX})


class WholeBoxesTest(unittest.TestCase):
    def test_example(self):
        self.assertEqual(whole_boxes(THREE, ((4, 4, 1),)), ((2, 2, 0, (0, 1), (0, 1), (0, 1)),))

    def test_all_top_shares_once(self):
        stocks = [(), STOCK, ((3, 3, 2), (5, 7, 1), (3, 3, 1), (6, 1, 2)), ((1, 2, 4),)]
        for lists in (TWO, THREE, ODD, SIDES, ((3, 6), (1, 5))):
            for stock in stocks:
                boxes = whole_boxes(lists, stock)
                shares = [(*box[:2], *share) for box in boxes for share in shares_in(box)]
                self.assertTrue(all([is_box(lists, stock, box) for box in boxes]))
                self.assertEqual(len(shares), len(set(shares)))
                for a, b, sort, _, column, row in shares:
                    self.assertEqual(top_over(lists, stock[sort][:2], a, b, column, row), (a, b, column, row))
                for sort, (width, height, many) in enumerate(stock):
                    for sheet in range(many):
                        counts = {}
                        for share in shares:
                            if share[2:4] == (sort, sheet):
                                counts[share[:2]] = counts.get(share[:2], 0) + 1
                        tops = top_shares(lists, (width, height))
                        self.assertEqual(tuple([(*kind, counts[kind]) for kind in sorted(counts)]), tops)
                cells = [cell for box in boxes for cell in sorted(cells_in(lists, box))]
                self.assertEqual(len(cells), len(set(cells)))

    def test_large(self):
        boxes = whole_boxes(THREE, LARGE)
        self.assertEqual(sum([box_count(THREE, LARGE, box) * THREE[0][box[0]] * THREE[1][box[1]] for box in boxes]),
                         TWELVE * TWELVE * THIRTY)
        check_calls(self, whole_boxes, {"lists": THREE, "stock": STOCK})


if __name__ == "__main__":
    unittest.main()
