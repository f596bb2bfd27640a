"""Points 83 to 85 and (G11): plans of cuts, their parts, the plans of layings, and the checker."""

import random
import unittest

from onesheetmore.errors import InvalidPaper
from onesheetmore.layings import lay_by_heights
from onesheetmore.planchecker import lets_plan
from onesheetmore.plans import cuts_in, is_plan, parts_of, plan_of
from onesheetmore.wholes import is_whole_across
from layingsamples import LAID, is_laying_of, lot_of_pieces, random_layings
from plansamples import (
    ONE, PLAN, REST, SAWN, defined_plan, first_fault, is_let_plan, pieces_on, random_plans, walk)
from samples import ANY, ODD, SIX, STOCK, THIRTY, THREE, TWELVE, TWO, changed, check_calls, check_refusals, refusal_of
from test_layings import random_lots
import plansamples
import samples


def leaves_of(plan, sheet):
    return [part for part in walk(plan, 0, 0, *sheet) if part[0][0] in ("piece", "rest")]


def settled(sheets):
    return tuple([(*sheet, sheets.count(sheet)) for sheet in sorted(set(sheets))])


def deep_plan(depth):
    plan = ("piece", 0, 0)
    for _ in range(depth):
        plan = ("across", (1,), (REST, plan))
    return plan


class PlansTest(unittest.TestCase):
    def test_examples(self):
        self.assertEqual(plan_of(TWO, ONE, SAWN, 0, 0), PLAN)
        self.assertEqual(parts_of(TWO, (3, 3), PLAN), (((1, 0), 0, 0, 2, 1), (None, 0, 1, 2, 1), (None, 0, 2, 2, 1),
                                                       ((0, 1), 2, 0, 1, 2), (None, 2, 2, 1, 1)))

    def test_is_plan(self):
        found = set()
        things = ANY + changed(PLAN) + [PLAN, REST, ("rest"), ["rest"], ("rest", 0), ("piece", 10 ** 59, 0), ("piece", 0),
                                        ("piece", True, 0), ("piece", 0, -1), ("piece", (0, 0)), ("Rest",), ("piece", "0", 0),
                                        ("up", (), (REST,)), ("up", (1,), (REST,)), ("up", (1,), (REST, REST, REST)),
                                        ("up", (1,), [REST, REST]), ("up", [1], (REST, REST)), ("up", (2, 1), (REST,) * 3),
                                        ("up", (1, 1), (REST,) * 3), ("up", (0, 10 ** 59), (REST,) * 3), ("up", 1, (REST, REST)),
                                        ("up", (1,), (REST, None)), ("down", (1,), (REST, REST)), ("up", (-1,), (REST, REST)),
                                        ("up", (True,), (REST, REST)), ("across", (1,), (REST, ("piece", 0, None))),
                                        ("up", (1,), "ab"), (("up",), (1,), (REST, REST)), deep_plan(14), (None, (1,), (REST, REST))]
        for thing in things + [plan for _, _, plan in random_plans(60, 83)]:
            expected = plansamples.is_plan(thing)
            self.assertIs(is_plan(thing), expected, thing)
            found.add(expected)
        self.assertEqual(found, {True, False})
        check_calls(self, is_plan, {"thing": PLAN})

    def test_cuts_and_parts(self):
        for lists, sheet, plan in random_plans(250, 84):
            nodes = walk(plan, 0, 0, *sheet)
            self.assertEqual(cuts_in(plan), sum([len(node[1]) for node, *_ in nodes if node[0] in ("up", "across")]))
            leaves = leaves_of(plan, sheet)
            self.assertEqual(cuts_in(plan), len(leaves) - 1)
            self.assertEqual(parts_of(lists, sheet, plan), tuple([
                (None if node == REST else node[1:], *part) for node, *part in leaves]))
        self.assertEqual([cuts_in(REST), cuts_in(("piece", 10 ** 59, 0)), cuts_in(deep_plan(14))], [0, 0, 14])
        self.assertEqual(cuts_in(("up", (0, 10 ** 59), (REST, REST, ("across", (5,), (REST, REST))))), 3)

    def check_plan(self, lists, stock, laying, sort, sheet):
        """One sheet's plan against the rules and the consequences; the number of its pieces."""
        size, pieces = stock[sort][:2], pieces_on(lists, laying, sort, sheet)
        plan = plan_of(lists, stock, laying, sort, sheet)
        self.assertEqual(plan, defined_plan(lists, pieces, size), (lists, stock, laying, sort, sheet))
        parts = parts_of(lists, size, plan)
        rests = [part[3:] for part in parts if part[0] is None]
        self.assertEqual(lets_plan(lists, size, plan), (lot_of_pieces(pieces), settled(rests)))
        told = [(*what, left, bottom) for what, left, bottom, _, _ in parts if what is not None]
        self.assertEqual(sorted(told), sorted(pieces))
        # (G11): one cut fewer than parts; in sheets with pieces, what holds a smallest share is whole across.
        self.assertEqual(cuts_in(plan), len(parts) - 1)
        for width, height in rests if pieces else []:
            if width >= lists[0][0] and height >= lists[1][0]:
                self.assertTrue(is_whole_across(lists, (width, height)))
        return len(pieces)

    def test_plans_of_layings(self):
        counts = set()
        layings = random_layings(160, 85)
        layings += [(lists, stock, lay_by_heights(lists, stock, lot)) for lists, stock, lot in random_lots(60, 86)]
        for lists, stock, laying in layings:
            for sort, (_, _, many) in enumerate(stock):
                for sheet in range(many):
                    counts.add(self.check_plan(lists, stock, laying, sort, sheet))
        self.assertGreater(len(counts), 15)

    def test_rules(self):
        # No piece: rule 1. One piece that is the whole sheet: no cut. A sheet in which no share lies.
        self.assertEqual(plan_of(TWO, STOCK, (), 1, 1), REST)
        self.assertEqual(plan_of(ODD, ((3, 3, 5),), ((1, 1, 0, (4, 1), (0, 1), (0, 1)),), 0, 4), ("piece", 1, 1))
        self.assertEqual(plan_of(((5,), (5,)), ((4, 9, 1),), (), 0, 0), REST)
        # Both rests are cut off, the one above along the whole sheet; then one column and one band alone.
        self.assertEqual(plan_of(((2, 4), (3,)), ((5, 5, 1),), ((1, 0, 0, (0, 1), (0, 1), (0, 1)),), 0, 0),
                         ("across", (3,), (("up", (4,), (("piece", 1, 0), REST)), REST)))
        # A share is cut up where no piece is as wide as it is, else across.
        low = ((0, 0, 0, (0, 1), (3, 1), (3, 1)),)
        self.assertEqual(plan_of(((1, 2, 4), (1, 2, 4)), ((4, 4, 1),), low, 0, 0),
                         ("up", (2,), (REST, ("up", (1,), (REST, ("across", (2,), (REST, ("across", (1,), (
                             REST, ("piece", 0, 0))))))))))
        flat = ((2, 0, 0, (0, 1), (0, 1), (3, 1)), (0, 1, 0, (0, 1), (0, 1), (0, 1)))
        self.assertEqual(plan_of(((1, 2, 4), (1, 2, 4)), ((4, 4, 1),), flat, 0, 0),
                         ("across", (2,), (("up", (2,), (("up", (1,), (("piece", 0, 1), REST)), REST)),
                                           ("across", (1,), (REST, ("piece", 2, 0))))))

    def test_full_small_sheet(self):
        laying = ((0, 0, 0, (0, 1), (0, 20), (0, 20)),)
        plan = plan_of(SIX, ((20, 60, 1),), laying, 0, 0)
        self.assertEqual(lets_plan(SIX, (20, 60), plan), (((0, 0, 400),), ()))
        self.assertEqual(cuts_in(plan), 399)
        self.assertEqual(plan, defined_plan(SIX, pieces_on(SIX, laying, 0, 0), (20, 60)))
        wide = (((3, TWELVE // 9), (5,)), ((TWELVE, 7, THIRTY),))
        self.assertEqual(plan_of(*wide, (), 0, THIRTY - 1), REST)
        lists = ((10 ** 9, 2 * 10 ** 9), (10 ** 9,))
        laying = ((0, 0, 0, (0, THIRTY), (0, 1), (1, 1)),)
        self.assertEqual(plan_of(lists, ((2 * 10 ** 9, 2 * 10 ** 9 + 1, THIRTY),), laying, 0, THIRTY - 1),
                         ("across", (2 * 10 ** 9,), (("across", (10 ** 9,), (REST, ("up", (10 ** 9,), (
                             ("piece", 0, 0), REST)))), REST)))

    def test_refusals(self):
        check_refusals(self, cuts_in, {"plan": PLAN}, {"plan": plansamples.is_plan})
        check_calls(self, cuts_in, {"plan": PLAN})
        given = {"lists": TWO, "sheet": (3, 3), "plan": PLAN}
        check_refusals(self, parts_of, given, {"plan": is_let_plan(TWO, (3, 3))})
        check_calls(self, parts_of, given)
        given = {"lists": TWO, "stock": STOCK, "laying": LAID, "sort": 1, "sheet": 1}
        check_refusals(self, plan_of, given, {
            "laying": is_laying_of(TWO, STOCK), "sort": samples.is_below(2), "sheet": samples.is_below(2)})
        check_calls(self, plan_of, given)
        self.assertEqual(refusal_of(lambda: plan_of(TWO, STOCK, LAID, 0, 1)), ("sheet", -1))
        self.assertEqual(refusal_of(lambda: plan_of(TWO, (), (), 0, 0)), ("sort", -1))
        self.assertEqual(refusal_of(lambda: parts_of(TWO, (3, 4), PLAN)), None)
        self.assertEqual(refusal_of(lambda: parts_of(TWO, (2, 3), PLAN)), ("plan", -1))


class PlanCheckerTest(unittest.TestCase):
    def assert_fault(self, thing, word, at, lists=TWO, sheet=(3, 3)):
        before = repr(thing)
        with self.assertRaises(InvalidPaper) as caught:
            lets_plan(lists, sheet, thing)
        self.assertEqual((caught.exception.word, caught.exception.at), (word, at), thing)
        self.assertEqual(repr(thing), before)

    def test_examples(self):
        self.assertEqual(lets_plan(TWO, (3, 3), PLAN), (((0, 1, 1), (1, 0, 1)), ((1, 1, 1), (2, 1, 2))))
        self.assert_fault(("up", (2,), (("piece", 1, 0), REST)), "fit", 1)

    def test_first_fault(self):
        for thing in (None, 0, True, "", (), [], "rest", ["rest"], ("up", (5,), (REST,)), ("up", (1,), (REST, ("piece", 9)))):
            self.assert_fault(thing, "plan", -1)
        for place in (0, 3, 4, 10 ** 59):
            self.assert_fault(("up", (place,), (REST, REST)), "cuts", 0)
            self.assert_fault(("across", (place,), (("piece", 9, 9), REST)), "cuts", 0)
            self.assert_fault(("up", (1,), (REST, ("across", (place,), (REST, REST)))), "cuts", 2)
        self.assert_fault(("up", (2,), (("up", (2,), (REST, REST)), REST)), "cuts", 1)
        self.assert_fault(("across", (2,), (REST, ("across", (1,), (REST, REST)))), "cuts", 2)
        self.assert_fault(("up", (1, 3), (REST, REST, REST)), "cuts", 0)
        self.assert_fault(("up", (0, 1), (REST, REST, REST)), "cuts", 0)
        for kind in ((2, 0), (0, 2), (10 ** 59, 0), (9, 9)):
            self.assert_fault(("piece", *kind), "kind", 0)
            self.assert_fault(("up", (1,), (("across", (1,), (("piece", 0, 0), REST)), ("piece", *kind))), "kind", 4)
        for kind, sheet in (((0, 0), (2, 1)), ((0, 0), (1, 2)), ((1, 1), (2, 1)), ((1, 0), (1, 2)), ((1, 1), (3, 3))):
            self.assert_fault(("piece", *kind), "fit", 0, sheet=sheet)
        self.assertEqual(lets_plan(TWO, (2, 1), ("piece", 1, 0)), (((1, 0, 1),), ()))
        self.assertEqual(lets_plan(TWO, (7, 9), REST), ((), ((7, 9, 1),)))
        # Node by node: the one ahead first, whatever its fault.
        self.assert_fault(("up", (1,), (("piece", 1, 1), ("up", (9,), (("piece", 5, 5), REST)))), "fit", 1)
        self.assert_fault(("up", (1,), (("across", (3,), (REST, REST)), ("piece", 5, 5))), "cuts", 1)
        self.assert_fault(("up", (1,), (("across", (1,), (("piece", 0, 0), ("piece", 7, 0))), ("piece", 1, 1))), "kind", 3)

    def test_against_the_words(self):
        rng = random.Random(87)
        found = set()
        for lists, sheet, plan in random_plans(250, 88):
            for size in (sheet, (sheet[0] + rng.randint(-1, 1) or 1, sheet[1] + rng.randint(0, 1))):
                fault = first_fault(lists, size, plan)
                found.add(fault and fault[0])
                if fault is not None:
                    self.assert_fault(plan, *fault, lists, size)
                    continue
                parts = parts_of(lists, size, plan)
                lot = lot_of_pieces([part[0] for part in parts if part[0] is not None])
                self.assertEqual(lets_plan(lists, size, plan), (lot, settled([part[3:] for part in parts if part[0] is None])))
            for other in rng.sample(changed(plan), 10):
                if plansamples.is_plan(other):
                    fault = first_fault(lists, sheet, other)
                    found.add(fault and fault[0])
                    if fault is not None:
                        self.assert_fault(other, *fault, lists, sheet)
                    else:
                        lets_plan(lists, sheet, other)
                else:
                    self.assert_fault(other, "plan", -1, lists, sheet)
        self.assertEqual(found, {None, "cuts", "kind", "fit"})

    def test_any_value(self):
        for thing in ANY + changed(PLAN):
            if is_let_plan(TWO, (3, 3))(thing):
                self.assertEqual(len(lets_plan(TWO, (3, 3), thing)), 2)
            else:
                with self.assertRaises(InvalidPaper):
                    lets_plan(TWO, (3, 3), thing)
        check_calls(self, lets_plan, {"lists": TWO, "sheet": (3, 3), "thing": PLAN})
        self.assertEqual(lets_plan(THREE, (1, 15), deep_plan(14)), (((0, 0, 1),), ((1, 1, 14),)))
        side = 2 * 10 ** 11
        large = ("up", tuple(range(side, 1000 * side, side)), (REST,) * 1000)
        self.assertEqual(lets_plan(THREE, (1000 * side, TWELVE), large), ((), ((side, TWELVE, 1000),)))


if __name__ == "__main__":
    unittest.main()
