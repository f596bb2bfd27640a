"""Points 4 and 16: kinds that cross or hold one another, closed sets."""

import unittest
from itertools import combinations, product

from onesheetmore.kindsets import closed_from, crosses, first_crossing, holds, is_closed, least_of
from samples import ONE_SIZE, SIX, THREE, TWO, all_kinds, check_calls, check_refusals
import samples


def subsets(things):
    return [chosen for many in range(len(things) + 1) for chosen in combinations(things, many)]


class KindsetsTest(unittest.TestCase):
    def test_examples(self):
        self.assertEqual([first_crossing(((2, 0), (0, 1), (1, 0))), closed_from(TWO, ((0, 1),))],
                         [((1, 0), (0, 1)), ((0, 1), (1, 1))])

    def test_crosses_and_holds(self):
        pairs = list(product(range(4), repeat=2)) + [(10 ** 59, 0), (0, 10 ** 59)]
        for one, other in product(pairs, repeat=2):
            wider, taller = one[0] > other[0], one[1] > other[1]
            narrower, lower = one[0] < other[0], one[1] < other[1]
            self.assertIs(crosses(one, other), (wider and lower) or (narrower and taller))
            self.assertIs(holds(one, other), not narrower and not lower)
            if one != other:
                self.assertEqual(crosses(one, other), not holds(one, other) and not holds(other, one))

    def test_first_crossing(self):
        for kinds in subsets(all_kinds(((1, 2, 4), (1, 2)))):
            found = sorted([(y, z) for y in kinds for z in kinds if y[0] > z[0] and z[1] > y[1]])
            for given in (kinds, kinds[::-1], kinds + kinds):
                self.assertEqual(first_crossing(given), found[0] if found else None)
        self.assertIsNone(first_crossing(()))
        self.assertEqual(first_crossing(((9, 0), (5, 5), (7, 1), (6, 4))), ((6, 4), (5, 5)))

    def test_least_of(self):
        for kinds in subsets(all_kinds(THREE)[:8]):
            least = tuple(sorted([one for one in kinds if not [two for two in kinds if one != two and holds(one, two)]]))
            self.assertEqual(least_of(kinds[::-1] + kinds), least)
            self.assertTrue(all([crosses(one, two) for one, two in combinations(least, 2)]))
        self.assertEqual(least_of(()), ())
        self.assertEqual(least_of(((70, 80), (70, 80))), ((70, 80),))

    def test_closed(self):
        for lists in (TWO, ONE_SIZE, ((1, 2, 4), (1, 2)), ((1,), (1, 2, 4))):
            everything = all_kinds(lists)
            for kinds in subsets(everything):
                closed = tuple([one for one in everything if [two for two in kinds if holds(one, two)]])
                self.assertEqual(closed_from(lists, kinds), closed)
                self.assertIs(is_closed(lists, kinds), closed == kinds)
                self.assertEqual(closed_from(lists, least_of(closed)), closed)
        self.assertEqual(closed_from(SIX, ((4, 5), (5, 4))), ((4, 5), (5, 4), (5, 5)))
        self.assertEqual([closed_from(TWO, ()), is_closed(TWO, ())], [(), True])

    def test_refusals(self):
        for function in (crosses, holds):
            check_refusals(self, function, {"one": (1, 0), "other": (0, 1)},
                           {"one": samples.is_pair, "other": samples.is_pair})
            check_calls(self, function, {"one": (1, 0), "other": (0, 1)})
        for function in (first_crossing, least_of):
            check_refusals(self, function, {"kinds": ((1, 0), (0, 1))}, {"kinds": samples.is_pairs})
            check_calls(self, function, {"kinds": ((1, 0), (0, 1), (1, 0))})
        for function in (is_closed, closed_from):
            for lists in (TWO, THREE):
                check_refusals(self, function, {"lists": lists, "kinds": ((0, 1), (1, 0))},
                               {"kinds": samples.is_kinds(lists)})
                check_calls(self, function, {"lists": lists, "kinds": ((0, 1), (1, 0))})


if __name__ == "__main__":
    unittest.main()
