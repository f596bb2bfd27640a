"""Points 93, 95, 96 and (G13): rooms on the lines through alike sheets."""

import random
import unittest

from onesheetmore.errors import InvalidPaper, Unfit
from onesheetmore.linechecker import lets_line_refusal
from onesheetmore.linerooms import fewest_by_lines, line_refusal, line_rooms
from onesheetmore.listforms import turned_lists, turned_lot
from onesheetmore.lots import pieces_in
from onesheetmore.verdicts import goes_in
from onesheetmore.wheels import wheel_lot
from onesheetmore.wholes import whole_ways
from countsamples import random_lot, stock_of
from rulesamples import ROWS
from samples import (
    ANY, ODD, ROUND, SIX, THIRTY, THREE, TWELVE, TWO, changed, check_calls, check_refusals, read_no_error, refusal_of)
from test_search import FLAT, LONG, UNEVEN, as_lot, counts_beside, is_told, lots_of
from test_staircases import WAYS
import samples

DEARER = ((0, 1, 3), (1, 0, 6))
ALIKE = [(TWO, (3, 3), 1), (TWO, (3, 3), 2), (TWO, (5, 3), 1), (TWO, (3, 2), 2), (TWO, (4, 3), 1), (FLAT, (5, 3), 1),
         (FLAT, (3, 3), 1), (LONG, (3, 3), 1), (UNEVEN, (4, 3), 1), (UNEVEN, (5, 3), 1), (ODD, (4, 4), 1), (TWO, (1, 4), 2)]


def definition(lists, sheet, lot, many, way):
    """The words of point 95, with f, r, e and both lefts by their names."""
    (widths, heights), (width, height) = (lists, sheet) if way == "heights" else (lists[::-1], sheet[::-1])
    pieces = [entry if way == "heights" else (entry[1], entry[0], entry[2]) for entry in lot]
    last, table = len(heights) - 1, {}

    def f(b):
        return height // heights[b]

    def wants(b, i):
        return sum([count * (widths[a] // widths[i]) for a, high, count in pieces if high == b and a >= i])

    def left(b, i, at):
        return min([(table[b][at][k] - wants(b, k)) * widths[k] // widths[i] for k in range(i + 1)])
    for b in range(last, -1, -1):
        if b == last:
            low = [many * f(b) * (width // size) for size in widths]
            high = [many * (f(b) + 1) * (width // size) for size in widths]
        else:
            r = heights[b + 1] // heights[b]
            e = f(b) - r * f(b + 1)
            low = [e * left(b + 1, i, 1) + (r - e) * left(b + 1, i, 0) for i in range(len(widths))]
            high = [(e + 1) * left(b + 1, i, 1) + (r - e - 1) * left(b + 1, i, 0) for i in range(len(widths))]
        table[b] = (tuple(low), tuple(high), tuple([wants(b, i) for i in range(len(widths))]))
    return tuple([table[b] for b in range(last + 1)])


def first_refusal(lists, sheet, lot, many):
    """The words of point 95."""
    for way in WAYS:
        rows = definition(lists, sheet, lot, many, way)
        for index in range(len(rows) - 1, -1, -1):
            low, _, wants = rows[index]
            for step in range(len(low)):
                if wants[step] > low[step]:
                    return (way, index, step)
    return None


def line_cases(number, seed):
    """So many (lists, sheet, lot, many)."""
    rng = random.Random(seed)
    made = [(TWO, (3, 3), ROUND, 1), (TWO, (3, 3), DEARER, 2), (TWO, (3, 3), (), 0), (TWO, (3, 3), ROUND, 0)]
    while len(made) < number:
        lists = rng.choice(ROWS + [SIX])
        sheet = (rng.randint(1, 4 * lists[0][-1]), rng.randint(1, 4 * lists[1][-1]))
        many = rng.choice([0, 1, 1, 2, 3, 20, THIRTY])
        made.append((lists, sheet, random_lot(lists, rng), many))
    return made


class LineRoomsTest(unittest.TestCase):
    def test_examples(self):
        self.assertEqual(line_rooms(TWO, (3, 3), ROUND, 1, "heights"), (((5, 2), (8, 4), (4, 2)), ((3, 1), (6, 2), (2, 0))))
        self.assertEqual([line_refusal(TWO, (3, 3), ROUND, 1), line_refusal(TWO, (3, 3), DEARER, 2)],
                         [None, ("heights", 0, 1)])
        self.assertEqual(fewest_by_lines(TWO, DEARER, (3, 3)), 3)

    def test_against_the_words(self):
        found = set()
        for lists, sheet, lot, many in line_cases(250, 95):
            for way in WAYS:
                told = line_rooms(lists, sheet, lot, many, way)
                self.assertEqual(told, definition(lists, sheet, lot, many, way))
                other = "widths" if way == "heights" else "heights"
                self.assertEqual(line_rooms(turned_lists(lists), sheet[::-1], turned_lot(lists, lot), many, other), told)
            expected = first_refusal(lists, sheet, lot, many)
            self.assertEqual(line_refusal(lists, sheet, lot, many), expected)
            found.add(expected and expected[0])
        self.assertEqual(found, {None, "heights"})

    def test_refused_by_widths_alone(self):
        for lists, sheet, lot, many, told in (
                (TWO, (3, 3), ((0, 1, 4), (1, 0, 5)), 2, ("widths", 0, 1)),
                (THREE, (7, 7), ((0, 2, 6), (1, 0, 6), (1, 1, 1), (2, 0, 4), (2, 1, 1), (2, 2, 2)), 2, ("widths", 0, 2)),
                (((1, 2, 6), (1, 3, 6)), (3, 11), ((0, 0, 1), (0, 2, 6), (1, 0, 6), (1, 1, 2)), 2, ("widths", 0, 2)),
                (FLAT, (7, 3), ((0, 1, 4), (1, 0, 1), (1, 1, 4), (2, 0, 4)), 2, ("widths", 0, 1))):
            self.assertEqual(first_refusal(lists, sheet, lot, many), told)
            self.assertEqual(line_refusal(lists, sheet, lot, many), told)
            # Turned, the heights come first.
            turned = line_refusal(turned_lists(lists), sheet[::-1], turned_lot(lists, lot), many)
            self.assertEqual(turned, ("heights", *told[1:]))

    def test_whole_one_way(self):
        found = set()
        for lists, sheet, lot, many in line_cases(500, 96):
            refused = line_refusal(lists, sheet, lot, many) is not None
            goes = goes_in(lists, stock_of(sheet, many), lot)
            if whole_ways(lists, sheet) != "neither":
                self.assertEqual(refused, not goes, (lists, sheet, lot, many))
                found.add(goes)
            # What goes in can be spread, on more sheets too.
            self.assertFalse(refused and goes)
            if goes:
                self.assertIsNone(line_refusal(lists, sheet, lot, many + 1))
        self.assertEqual(found, {True, False})

    def test_beside_a_search_through_spreads(self):
        found = set()
        for lists, sheet, many in ALIKE:
            most = lots_of(lists, [sheet] * many, False)
            for counts in counts_beside(lists, most):
                lot = as_lot(lists, counts)
                refusal = line_refusal(lists, sheet, lot, many)
                if is_told(most, counts):
                    self.assertIsNone(refusal, (lists, sheet, lot, many))
                    self.assertIsNone(line_refusal(lists, sheet, lot, many + 1))
                found.add((is_told(most, counts), refusal is None))
        self.assertLessEqual({(True, True), (False, False)}, found)

    def test_wheels(self):
        seen = 0
        for lists, sheet, _, _ in line_cases(300, 97):
            lot = wheel_lot(lists, sheet)
            if lot is not None:
                self.assertIsNone(line_refusal(lists, sheet, lot, 1))
                self.assertEqual(fewest_by_lines(lists, lot, sheet), 1)
                seen += 1
        self.assertGreater(seen, 20)

    def test_fewest(self):
        found = set()
        for lists, sheet, lot, _ in line_cases(250, 98):
            lacking = [(a, b) for a, b, _ in lot if lists[0][a] > sheet[0] or lists[1][b] > sheet[1]]
            told = read_no_error(lambda: fewest_by_lines(lists, lot, sheet))
            found.add(lacking == [])
            if lacking:
                self.assertEqual((type(told), told.kind), (Unfit, lacking[0]))
                continue
            self.assertIsNone(line_refusal(lists, sheet, lot, told))
            if told > 0:
                self.assertIsNotNone(line_refusal(lists, sheet, lot, told - 1))
            if pieces_in(lists, lot) < 60:
                fitting = [many for many in range(61) if first_refusal(lists, sheet, lot, many) is None]
                self.assertEqual(told, fitting[0])
        self.assertEqual(found, {True, False})
        self.assertEqual([fewest_by_lines(TWO, (), (1, 1)), fewest_by_lines(SIX, (), (TWELVE, TWELVE))], [0, 0])

    def test_large(self):
        lot = ((0, 1, THIRTY), (1, 0, THIRTY))
        told = fewest_by_lines(TWO, lot, (TWELVE, TWELVE))
        self.assertIsNone(first_refusal(TWO, (TWELVE, TWELVE), lot, told))
        self.assertIsNotNone(first_refusal(TWO, (TWELVE, TWELVE), lot, told - 1))
        self.assertEqual(line_rooms(TWO, (TWELVE, TWELVE), lot, THIRTY, "widths"),
                         definition(TWO, (TWELVE, TWELVE), lot, THIRTY, "widths"))

    def test_refusals(self):
        lot, many = {"lot": samples.is_lot(THREE)}, {"many": samples.is_number}
        given = {"lists": THREE, "sheet": (3, 5), "lot": ROUND, "many": 1, "way": "widths"}
        check_refusals(self, line_rooms, given, {
            **lot, **many, "way": lambda thing: type(thing) is str and thing in WAYS})
        check_calls(self, line_rooms, given)
        given = {"lists": THREE, "sheet": (3, 5), "lot": ROUND, "many": 1}
        check_refusals(self, line_refusal, given, {**lot, **many})
        check_calls(self, line_refusal, given)
        given = {"lists": THREE, "lot": ROUND, "sheet": (3, 5)}
        check_refusals(self, fewest_by_lines, given, {**lot, "sheet": samples.is_sheet})
        check_calls(self, fewest_by_lines, given)
        self.assertEqual(refusal_of(lambda: fewest_by_lines(TWO, ((1, 1, 1),), (0, 1))), ("sheet", -1))
        error = read_no_error(lambda: fewest_by_lines(TWO, ROUND, (1, 1)))
        self.assertEqual((type(error), error.kind), (Unfit, (0, 1)))


class LineCheckerTest(unittest.TestCase):
    def assert_fault(self, given, thing, word):
        before = repr(thing)
        with self.assertRaises(InvalidPaper) as caught:
            lets_line_refusal(*given, thing)
        self.assertEqual((caught.exception.word, caught.exception.at), (word, -1), thing)
        self.assertEqual(repr(thing), before)

    def test_examples(self):
        self.assertEqual(lets_line_refusal(TWO, (3, 3), DEARER, 2, ("heights", 0, 1)), 1)
        self.assert_fault((TWO, (3, 3), ROUND, 1), ("heights", 1, 1), "last")

    def test_every_place(self):
        found = set()
        for lists, sheet, lot, many in line_cases(120, 99):
            refused = []
            for way in WAYS:
                for index, (low, _, wants) in enumerate(definition(lists, sheet, lot, many, way)):
                    for step, want in enumerate(wants):
                        paper = (way, index, step)
                        if want > low[step]:
                            refused.append(paper)
                            self.assertEqual(lets_line_refusal(lists, sheet, lot, many, paper), want - low[step])
                        else:
                            self.assert_fault((lists, sheet, lot, many), paper, "last")
            found.add(len(refused) > 0)
            told = line_refusal(lists, sheet, lot, many)
            self.assertTrue(told in refused if refused else told is None)
        self.assertEqual(found, {True, False})

    def test_first_fault(self):
        given = (((1, 2, 4), (1, 2)), (3, 3), ROUND, 1)
        for thing in (None, 0, True, "", "abc", (), ("heights", 0), ("heights", 0, 0, 0), ["heights", 0, 0]):
            self.assert_fault(given, thing, "paper")
        for way in (None, 0, True, "", "height", ("heights",), ["widths"]):
            self.assert_fault(given, (way, None, None), "way")
        for index in (2, 3, -1, True, None, "0", (0,), 10 ** 59):
            self.assert_fault(given, ("heights", index, None), "index")
        for index in (3, -1, False, None, [0]):
            self.assert_fault(given, ("widths", index, None), "index")
        for step in (3, -1, False, None, "1", (1,), 10 ** 59):
            self.assert_fault(given, ("heights", 1, step), "step")
        for step in (2, 3, -1, True, None):
            self.assert_fault(given, ("widths", 2, step), "step")
        for thing in ANY + changed(("heights", 0, 1)):
            if type(thing) is not tuple or len(thing) != 3:
                self.assert_fault(given, thing, "paper")

    def test_refusals(self):
        given = {"lists": TWO, "sheet": (3, 3), "lot": DEARER, "many": 2, "thing": ("heights", 0, 1)}
        check_refusals(self, lets_line_refusal, given, {"lot": samples.is_lot(TWO), "many": samples.is_number})
        check_calls(self, lets_line_refusal, given)
        self.assertEqual(refusal_of(lambda: lets_line_refusal(TWO, (3, 3), DEARER, -1, None)), ("many", -1))


if __name__ == "__main__":
    unittest.main()
