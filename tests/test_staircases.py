"""Points 9, 33, 35 and 36: staircases, and the kinds that they count."""

import inspect
import unittest
from itertools import combinations, product

from onesheetmore.kindsets import closed_from, is_closed, least_of
from onesheetmore.staircases import counted_by, is_staircase, other_way, own_sizes, staircase_of, staircases_of
from samples import ANY, ONE_SIZE, SIDES, SIX, THREE, TWO, all_kinds, changed, check_calls, check_refusals, refusal_of
import samples

WAYS = ("heights", "widths")
LISTS = [TWO, THREE, SIDES, ONE_SIZE, ((1, 2, 4), (1, 2)), ((1,), (1, 2, 4)), ((1, 2, 4), (1,)),
         ((1, 2, 4, 8), (1, 3, 6))]


def is_way(thing):
    return type(thing) is str and thing in WAYS


def is_staircase_of(lists):
    def test(thing):
        if not samples.is_tuple_of(2, is_way)(thing) or type(thing[1]) is not tuple:
            return False
        down, across = (lists[1], lists[0]) if thing[0] == "heights" else lists
        steps = thing[1]
        return 1 <= len(steps) <= len(down) and all([samples.is_below(len(across))(step) for step in steps]) and all(
            [low <= high for low, high in zip(steps, steps[1:])])
    return test


def counted(lists, staircase):
    way, steps = staircase
    kinds = all_kinds(lists)
    if way == "heights":
        step_of = {len(lists[1]) - 1 - i: step for i, step in enumerate(steps)}
        return tuple([(a, b) for a, b in kinds if b in step_of and a >= step_of[b]])
    step_of = {len(lists[0]) - 1 - i: step for i, step in enumerate(steps)}
    return tuple([(a, b) for a, b in kinds if a in step_of and b >= step_of[a]])


def closed_sets(lists):
    """All closed sets of kinds that are not empty."""
    kinds = all_kinds(lists)
    sets = {closed_from(lists, chosen) for many in range(1, len(kinds) + 1) for chosen in combinations(kinds, many)}
    return sorted(sets)


class StaircasesTest(unittest.TestCase):
    def test_examples(self):
        self.assertEqual([is_staircase(TWO, ("heights", (0, 1))), is_staircase(TWO, ("widths", (1, 0)))], [True, False])
        self.assertEqual(list(staircases_of(TWO, "heights")), [
            ("heights", (0,)), ("heights", (1,)), ("heights", (0, 0)), ("heights", (0, 1)), ("heights", (1, 1))])
        self.assertEqual(counted_by(TWO, ("heights", (0, 1))), ((0, 1), (1, 0), (1, 1)))
        self.assertEqual([own_sizes(THREE, ("heights", (0, 0, 2))), own_sizes(TWO, ("widths", (1, 1)))],
                         [((1, 4), (1, 2)), ((1,), (2,))])
        self.assertEqual(staircase_of(THREE, ((1, 2), (2, 1), (2, 2)), "heights"), ("heights", (1, 2)))
        self.assertEqual(other_way(THREE, ("heights", (1,))), ("widths", (2, 2)))
        self.assertEqual(refusal_of(lambda: staircase_of(TWO, ((0, 1),), "widths")), ("kinds", -1))

    def test_is_staircase(self):
        good = [("heights", (0, 1)), ("widths", (0, 0, 1)), ("heights", (2, 2, 2)), ("widths", (1,))]
        for lists in LISTS + [SIX]:
            test = is_staircase_of(lists)
            for thing in ANY + good + [other for thing in good for other in changed(thing)]:
                self.assertIs(is_staircase(lists, thing), test(thing), thing)
        self.assertIs(is_staircase(TWO, ("heights", (False, True))), False)
        self.assertIs(is_staircase(TWO, ("heights", (0, 1, 1))), False)
        self.assertIs(is_staircase(((1, 2, 4), (1,)), ("widths", (0, 0, 0))), True)
        self.assertIs(is_staircase(((1, 2, 4), (1,)), ("heights", (0, 0))), False)

    def test_staircases_of(self):
        for lists, way in product(LISTS, WAYS):
            down, across = (lists[1], lists[0]) if way == "heights" else lists
            rows = [steps for many in range(1, len(down) + 1) for steps in product(range(len(across)), repeat=many)]
            expected = [(way, steps) for steps in rows if list(steps) == sorted(steps)]
            found = list(staircases_of(lists, way))
            self.assertEqual(found, expected)
            self.assertEqual(found, sorted(found, key=lambda one: (len(one[1]), one)))
            self.assertTrue(all([is_staircase(lists, one) for one in found]))
        self.assertEqual(len(list(staircases_of(SIX, "widths"))), 923)

    def test_staircases_of_is_a_generator(self):
        self.assertTrue(inspect.isgenerator(staircases_of(TWO, "widths")))
        one, other = staircases_of(TWO, "widths"), staircases_of(lists=TWO, way="widths")
        self.assertEqual([next(one), next(one), next(other)], [("widths", (0,)), ("widths", (1,)), ("widths", (0,))])
        for thing in ANY + ["height", "Heights", ("heights",), ["heights"]]:
            if not is_way(thing):
                late = staircases_of(TWO, thing)
                self.assertEqual(refusal_of(lambda: next(late)), ("way", -1))

    def test_counted_and_closed(self):
        for lists in LISTS:
            sets = closed_sets(lists) if len(all_kinds(lists)) <= 9 else None
            for way in WAYS:
                found = []
                for staircase in staircases_of(lists, way):
                    kinds = counted_by(lists, staircase)
                    found.append(kinds)
                    self.assertEqual(kinds, counted(lists, staircase))
                    self.assertTrue(kinds and is_closed(lists, kinds))
                    self.assertEqual(staircase_of(lists, kinds, way), staircase)
                    other = other_way(lists, staircase)
                    self.assertEqual(other[0], "widths" if way == "heights" else "heights")
                    self.assertEqual(counted_by(lists, other), kinds)
                    self.assertEqual(other_way(lists, other), staircase)
                    least = least_of(kinds)
                    own = (tuple([lists[0][a] for a in sorted({a for a, _ in least})]),
                           tuple([lists[1][b] for b in sorted({b for _, b in least})]))
                    self.assertEqual(own_sizes(lists, staircase), own)
                    self.assertEqual(own_sizes(lists, other), own)
                self.assertEqual(len(found), len(set(found)))
                if sets is not None:
                    self.assertEqual(sorted(found), sets)

    def test_refusals(self):
        for lists in (TWO, THREE, ((1, 2, 4), (1, 2))):
            given = {"lists": lists, "staircase": ("heights", (0, 1))}
            for function in (counted_by, other_way, own_sizes):
                check_refusals(self, function, given, {"staircase": is_staircase_of(lists)})
                check_calls(self, function, given)
            given = {"lists": lists, "kinds": closed_from(lists, ((1, 0),)), "way": "widths"}
            check_refusals(self, staircase_of, given, {
                "kinds": lambda thing: samples.is_kinds(lists)(thing) and thing in closed_sets(lists), "way": is_way})
            check_calls(self, staircase_of, given)
        self.assertEqual(refusal_of(lambda: staircase_of(TWO, (), "heights")), ("kinds", -1))
        check_calls(self, is_staircase, {"lists": TWO, "thing": ("heights", (0, 1))})
        check_calls(self, is_staircase, {"lists": TWO, "thing": ["heights", [0, 1]]})


if __name__ == "__main__":
    unittest.main()
