"""Points 73 and 74: kinds that cross over a third one, forks, and the sides of a fork."""

import unittest

from onesheetmore.errors import NoRule
from onesheetmore.forks import fork_of, sides_of
from onesheetmore.kindsets import crosses, first_crossing
from onesheetmore.listforms import turned_kinds, turned_lists
from onesheetmore.overs import crosses_over, first_over, has_rule
from rulesamples import FOUR, KINDS, all_sets, crossing_in, is_over, overs_in, random_sets, rule_sets
from samples import SIX, THREE, TWO, all_kinds, check_calls, check_refusals, read_no_error, refusal_of
import samples


class OversTest(unittest.TestCase):
    def test_example(self):
        self.assertEqual(first_over(THREE, ((0, 2), (1, 1), (2, 0))), ((1, 1), (2, 0), (0, 2)))

    def test_crosses_over(self):
        found = set()
        kinds = [(a, b) for a in range(4) for b in range(4)]
        for x in kinds:
            for y in kinds:
                for z in kinds:
                    expected = is_over(x, y, z)
                    self.assertIs(crosses_over(x, y, z), expected)
                    found.add(expected)
        self.assertEqual(found, {True, False})
        far = 10 ** 59
        self.assertIs(crosses_over((0, 0), (far, 1), (far - 1, far)), True)
        self.assertIs(crosses_over((far, 0), (far, 1), (far - 1, far)), False)
        # Where a side of one is as long as that of another one, it is neither wider nor taller.
        for x, y, z in (((1, 0), (1, 0), (0, 1)), ((0, 1), (1, 0), (0, 1)), ((0, 0), (1, 1), (0, 1)), ((0, 0), (1, 0), (1, 1))):
            self.assertIs(crosses_over(x, y, z), False)

    def test_all_sets(self):
        found = set()
        for lists in (TWO, THREE, ((1, 2, 4), (1,)), ((1, 2), (1, 2, 4, 8))):
            for kinds in all_sets(lists):
                overs = overs_in(kinds)
                self.assertEqual(first_over(lists, kinds), overs[0] if overs else None)
                self.assertIs(has_rule(lists, kinds), overs == [])
                found.add(overs == [])
        self.assertEqual(found, {True, False})
        self.assertIs(has_rule(TWO, ()), True)
        self.assertIsNone(first_over(TWO, ()))
        self.assertEqual(first_over(SIX, tuple(all_kinds(SIX))), ((0, 0), (1, 0), (0, 1)))

    def test_parts_and_turned_sets(self):
        for lists, kinds in random_sets(150, 73):
            told = has_rule(lists, kinds)
            self.assertIs(has_rule(turned_lists(lists), turned_kinds(lists, kinds)), told)
            for at in range(len(kinds)):
                if told:
                    self.assertIs(has_rule(lists, kinds[:at] + kinds[at + 1:]), True)

    def test_refusals(self):
        given = {"x": (0, 0), "y": (1, 0), "z": (0, 1)}
        check_refusals(self, crosses_over, given, {name: samples.is_pair for name in given})
        check_calls(self, crosses_over, given)
        given = {"lists": THREE, "kinds": KINDS}
        for function in (first_over, has_rule):
            check_refusals(self, function, given, {"kinds": samples.is_kinds(THREE)})
            check_calls(self, function, given)
            self.assertEqual(refusal_of(lambda: function(TWO, KINDS)), ("kinds", -1))


class ForksTest(unittest.TestCase):
    def assert_no_rule(self, call, kinds):
        error = read_no_error(call)
        self.assertEqual((type(error), error.kinds), (NoRule, kinds))

    def test_examples(self):
        self.assertEqual([fork_of(THREE, KINDS), sides_of(THREE, KINDS)],
                         [(1, 2), (((2, 2),), ((1, 0), (1, 1)), ((0, 2),))])
        self.assert_no_rule(lambda: fork_of(THREE, ((0, 0), (0, 1), (1, 0))), ((0, 0), (1, 0), (0, 1)))

    def test_all_sets(self):
        found = set()
        for lists in (TWO, THREE, ((1, 2), (1, 2, 4, 8))):
            for kinds in all_sets(lists):
                overs, crossing = overs_in(kinds), crossing_in(kinds)
                if overs:
                    self.assert_no_rule(lambda: fork_of(lists, kinds), overs[0])
                    self.assert_no_rule(lambda: sides_of(lists, kinds), overs[0])
                    continue
                fork = (max([y[0] for y, _ in crossing]), max([z[1] for _, z in crossing])) if crossing else None
                self.assertEqual(fork_of(lists, kinds), fork)
                flat = tuple([kind for kind in kinds if fork and kind[1] < fork[1]])
                tall = tuple([kind for kind in kinds if fork and kind[0] < fork[0]])
                big = tuple([kind for kind in kinds if kind not in flat + tall])
                self.assertEqual(sides_of(lists, kinds), (big, flat, tall))
                found.add((fork is None, fork in kinds))
        self.assertEqual(found, {(True, False), (False, False), (False, True)})

    def test_consequences(self):
        for lists, kinds in rule_sets(150, 74):
            sides = sides_of(lists, kinds)
            self.assertEqual(sorted([kind for side in sides for kind in side]), list(kinds))
            for side in sides:
                self.assertIsNone(first_crossing(side))
        for lists, kinds in rule_sets(150, 75, False):
            self.assertIsNone(fork_of(lists, kinds))
            self.assertEqual(sides_of(lists, kinds), (kinds, (), ()))
        for lists, kinds in rule_sets(150, 76, True):
            fork, (_, flat, tall) = fork_of(lists, kinds), sides_of(lists, kinds)
            self.assertTrue(flat and tall)
            self.assertEqual({kind[0] for kind in flat}, {fork[0]})
            self.assertEqual({kind[1] for kind in tall}, {fork[1]})
            self.assertTrue(all([crosses(one, other) for one in flat for other in tall]))

    def test_refusals(self):
        given = {"lists": THREE, "kinds": KINDS}
        for function in (fork_of, sides_of):
            check_refusals(self, function, given, {"kinds": samples.is_kinds(THREE)})
            check_calls(self, function, given)
            self.assert_no_rule(lambda: function(FOUR, tuple(all_kinds(FOUR))), ((0, 0), (1, 0), (0, 1)))
        self.assertEqual([fork_of(TWO, ()), sides_of(TWO, ())], [None, ((), (), ())])


if __name__ == "__main__":
    unittest.main()
