"""Point 75: the ground of a stock, for big, flat and tall kinds."""

import random
import unittest

from onesheetmore.errors import NoRule
from onesheetmore.grounds import own_ground
from onesheetmore.shares import top_shares
from rulesamples import KINDS, crossing_in, overs_in, random_sets, rule_sets
from samples import STOCK, THIRTY, THREE, TWELVE, TWO, check_calls, check_refusals, read_no_error
from test_layings import random_stock
import samples


def definition(lists, stock, kinds):
    """The words of point 75, top share by top share."""
    crossing = crossing_in(kinds)
    fork = (max([y[0] for y, _ in crossing]), max([z[1] for _, z in crossing])) if crossing else None
    flat = [kind for kind in kinds if fork and kind[1] < fork[1]]
    tall = [kind for kind in kinds if fork and kind[0] < fork[0]]
    chain = [kind for kind in kinds if kind not in flat + tall] + ([fork] if fork else [])
    counts = {"big": {}, "flat": {}, "tall": {}}
    for width, height, sheets in stock:
        for a, b, many in top_shares(lists, (width, height)):
            lower, narrower = fork is not None and b < fork[1], fork is not None and a < fork[0]
            if lower and narrower:
                continue
            name = "flat" if lower else "tall" if narrower else "big"
            own = {"big": chain, "flat": flat, "tall": tall}[name]
            held = [kind for kind in own if a >= kind[0] and b >= kind[1]]
            if held:
                # The greatest one is held by no other one of them.
                greatest = [kind for kind in held if all([kind[0] >= one[0] and kind[1] >= one[1] for one in held])][0]
                per_share = lists[0][a] * lists[1][b] // (lists[0][greatest[0]] * lists[1][greatest[1]])
                counts[name][greatest] = counts[name].get(greatest, 0) + sheets * many * per_share
    return tuple([tuple([(*kind, own[kind]) for kind in sorted(own)]) for own in counts.values()])


class GroundsTest(unittest.TestCase):
    def test_example(self):
        self.assertEqual(own_ground(THREE, STOCK, KINDS), (((2, 2, 2),), ((1, 1, 1),), ()))

    def test_against_the_words(self):
        rng = random.Random(75)
        found = set()
        for forked, many in ((True, 150), (False, 60), (None, 60)):
            for lists, kinds in rule_sets(many, 77, forked):
                stock = random_stock(lists, rng)
                told = own_ground(lists, stock, kinds)
                self.assertEqual(told, definition(lists, stock, kinds), (lists, stock, kinds))
                self.assertEqual(own_ground(lists, (), kinds), ((), (), ()))
                found.add(tuple([len(side) > 0 for side in told]))
        self.assertEqual(len(found), 8)

    def test_no_rule(self):
        seen = 0
        for lists, kinds in random_sets(100, 76):
            if overs_in(kinds):
                error = read_no_error(lambda: own_ground(lists, STOCK, kinds))
                self.assertEqual((type(error), error.kinds), (NoRule, overs_in(kinds)[0]))
                seen += 1
        self.assertGreater(seen, 20)

    def test_edges(self):
        self.assertEqual(own_ground(THREE, STOCK, ()), ((), (), ()))
        self.assertEqual(own_ground(TWO, ((1, 1, THIRTY),), ((1, 1),)), ((), (), ()))
        stock = ((TWELVE, TWELVE, THIRTY), (TWELVE, TWELVE, THIRTY))
        self.assertEqual(own_ground(TWO, stock, ((0, 1), (1, 0))),
                         (((1, 1, 2 * THIRTY * ((TWELVE - 1) // 2) ** 2),), ((1, 0, THIRTY * (TWELVE - 1)),),
                          ((0, 1, THIRTY * (TWELVE - 1)),)))

    def test_refusals(self):
        given = {"lists": THREE, "stock": STOCK, "kinds": KINDS}
        check_refusals(self, own_ground, given, {"kinds": samples.is_kinds(THREE)})
        check_calls(self, own_ground, given)


if __name__ == "__main__":
    unittest.main()
