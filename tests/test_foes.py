"""Point 78 and (G10): sheets and orders that no rule can serve."""

import random
import unittest
from fractions import Fraction
from itertools import combinations
from math import ceil

from onesheetmore.foes import foe_asks, foe_of
from onesheetmore.openings import free_place
from onesheetmore.verdicts import goes_in
from rulesamples import ROWS, all_sets, is_over, overs_in, random_sets
from samples import ODD, SIX, THREE, TWO, all_kinds, changed, check_calls, check_refusals, refusal_of
from spreadsamples import are_apart, as_quotient, is_spread_of
import samples

LOW = ((0, 0), (0, 1), (1, 0))


def definition(lists, over):
    """The words of point 78."""
    x, y, z = over
    (width_x, height_x), (width_y, height_y), (width_z, height_z) = [
        (lists[0][a], lists[1][b]) for a, b in over]
    c, cz = Fraction(width_y, width_x), ceil(Fraction(width_z, width_x))
    h, cy = Fraction(height_z, height_x), ceil(Fraction(height_y, height_x))
    return ((width_y, height_z), x, int(min((h - cy) * c, h * (c - cz))), y, z)


def is_foe(lists, thing):
    """True if thing is the foe of some set, which then has but three kinds."""
    kind = samples.is_kind(lists)
    if not samples.is_tuple_of(5, samples.is_sheet, kind, samples.is_number, kind, kind)(thing):
        return False
    _, x, _, y, z = thing
    return is_over(x, y, z) and definition(lists, (x, y, z)) == thing


def places_on(lists, sheet, kind, parts):
    """All places of the kind at multiples of one of so many parts of a unit."""
    width, height = lists[0][kind[0]], lists[1][kind[1]]
    return [(*kind, 0, 0, as_quotient(Fraction(x, parts)), as_quotient(Fraction(y, parts)))
            for x in range((sheet[0] - width) * parts + 1) for y in range((sheet[1] - height) * parts + 1)]


def spread_at_random(lists, foe, rng):
    """Just the foe's many pieces x somewhere on its sheet, or None where the tries did not find room for all."""
    sheet, x, many, _, _ = foe
    parts = rng.choice([1, 1, 1, 2, 3])
    places = places_on(lists, sheet, x, parts)
    pieces = []
    for piece in rng.sample(places, len(places)):
        if len(pieces) < many and are_apart(lists, pieces + [piece]):
            pieces.append(piece)
    return tuple(pieces) if len(pieces) == many else None


class FoesTest(unittest.TestCase):
    def check_answer(self, lists, foe, spread):
        sheet, _, _, y, z = foe
        told = foe_asks(lists, foe, spread)
        self.assertEqual(told, y if free_place(lists, ((*sheet, 1),), spread, *y) is None else z)
        self.assertIsNone(free_place(lists, ((*sheet, 1),), spread, *told), (lists, foe, spread))
        return told

    def test_example(self):
        foe = foe_of(TWO, LOW)
        self.assertEqual(foe, ((2, 2), (0, 0), 2, (1, 0), (0, 1)))
        self.assertEqual(foe_asks(TWO, foe, ((0, 0, 0, 0, (0, 1), (0, 1)), (0, 0, 0, 0, (1, 1), (0, 1)))), (0, 1))

    def test_foes(self):
        found = set()
        sets = [(lists, kinds) for lists in (TWO, THREE) for kinds in all_sets(lists)] + list(random_sets(200, 78))
        for lists, kinds in sets:
            overs = overs_in(kinds)
            foe = foe_of(lists, kinds)
            found.add(foe is None)
            if not overs:
                self.assertIsNone(foe)
                continue
            self.assertEqual(foe, definition(lists, overs[0]))
            sheet, x, many, y, z = foe
            self.assertGreater(many, 0)
            for kind in (y, z):
                self.assertTrue(goes_in(lists, ((*sheet, 1),), tuple(sorted([(*x, many), (*kind, 1)]))))
        self.assertEqual(found, {True, False})
        self.assertIsNone(foe_of(TWO, ()))

    def test_large(self):
        lists = ((1, 10 ** 8), (3, 3 * 10 ** 8))
        self.assertEqual(foe_of(lists, LOW), ((10 ** 8, 3 * 10 ** 8), (0, 0), (10 ** 8 - 1) * 10 ** 8, (1, 0), (0, 1)))
        # A piece z narrower than x, a piece y lower than x: they take whole columns and rows of x.
        lists = ((1, 2, 8), (1, 5, 10))
        self.assertEqual(foe_of(lists, ((0, 2), (1, 1), (2, 0))), ((8, 10), (1, 1), min((2 - 1) * 4, 2 * (4 - 1)), (2, 0), (0, 2)))

    def test_all_spreads_of_small_foes(self):
        asked = set()
        for lists in (TWO, ((1, 2), (1, 3)), ((1, 2, 4), (1, 2)), ((1, 2, 4), (1, 2, 4))):
            foes = {foe_of(lists, kinds) for kinds in combinations(all_kinds(lists), 3) if overs_in(kinds)}
            for foe in sorted([one for one in foes if one[2] <= 4]):
                for pieces in combinations(places_on(lists, foe[0], foe[1], 1), foe[2]):
                    if are_apart(lists, pieces):
                        asked.add(self.check_answer(lists, foe, pieces) == foe[3])
        self.assertEqual(asked, {True, False})

    def test_spreads_in_fractions(self):
        rng = random.Random(79)
        asked = []
        for _ in range(300):
            lists = rng.choice(ROWS[:7])
            kinds = rng.sample(all_kinds(lists), min(3, len(all_kinds(lists))))
            if not overs_in(kinds):
                continue
            foe = foe_of(lists, tuple(sorted(kinds)))
            if foe[0][0] * foe[0][1] > 200 or foe[2] > 60:
                continue
            spread = spread_at_random(lists, foe, rng)
            if spread is not None:
                asked.append(self.check_answer(lists, foe, spread) == foe[3])
        self.assertGreater(len(asked), 15)
        self.assertEqual(set(asked), {True, False})

    def test_refusals(self):
        given = {"lists": THREE, "kinds": ((0, 1), (1, 0), (2, 2))}
        check_refusals(self, foe_of, given, {"kinds": samples.is_kinds(THREE)})
        check_calls(self, foe_of, given)
        foe = foe_of(TWO, LOW)
        spread = ((0, 0, 0, 0, (1, 2), (0, 1)), (0, 0, 0, 0, (0, 1), (1, 1)))

        def is_own_spread(thing):
            return is_spread_of(TWO, ((2, 2, 1),))(thing) and [piece[:2] for piece in thing] == [(0, 0)] * 2
        given = {"lists": TWO, "foe": foe, "spread": spread}
        check_refusals(self, foe_asks, given, {"foe": lambda thing: is_foe(TWO, thing), "spread": is_own_spread})
        check_calls(self, foe_asks, given)
        for bad in ((), spread[:1], (*spread, (0, 0, 0, 0, (1, 1), (1, 1))), spread[::-1] + spread, (spread[0], spread[0]),
                    ((0, 1, 0, 0, (0, 1), (0, 1)), spread[0]), (spread[0], (0, 0, 0, 0, (3, 2), (1, 1))),
                    (spread[0], (0, 0, 0, 1, (0, 1), (1, 1))), (spread[0], (0, 0, 1, 0, (0, 1), (1, 1)))):
            self.assertEqual(refusal_of(lambda: foe_asks(TWO, foe, bad)), ("spread", -1), bad)

    def test_foes_of_no_set(self):
        good = ((4, 4), (1, 1), 2, (2, 0), (0, 2))
        self.assertEqual(foe_of(THREE, ((0, 2), (1, 1), (2, 0))), good)
        spread = ((1, 1, 0, 0, (0, 1), (0, 1)), (1, 1, 0, 0, (2, 1), (0, 1)))
        self.assertEqual(foe_asks(THREE, good, spread), (0, 2))
        for bad in [thing for thing in changed(good) if not is_foe(THREE, thing)] + [((4, 4), (1, 1), 3, (2, 0), (0, 2)), ((4, 2), (1, 1), 2, (2, 0), (0, 2)),
                                    ((4, 4), (1, 1), 2, (0, 2), (2, 0)), ((4, 4), (0, 0), 2, (2, 0), (0, 2)),
                                    ((4, 4), (1, 1), True, (2, 0), (0, 2)), None, (), 5 * (0,), "abcde"]:
            self.assertEqual(refusal_of(lambda: foe_asks(THREE, bad, spread)), ("foe", -1), bad)
        self.assertEqual(refusal_of(lambda: foe_asks(ODD, good, None)), ("foe", -1))
        self.assertEqual(refusal_of(lambda: foe_asks(SIX, good, None)), ("foe", -1))


if __name__ == "__main__":
    unittest.main()
