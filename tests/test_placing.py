"""Point 76 and (G10): a rule that lays orders for good."""

import random
import unittest

from onesheetmore.errors import NoRule
from onesheetmore.further import most_more
from onesheetmore.grounds import own_ground
from onesheetmore.layingchecker import lets_laying
from onesheetmore.lookups import laying_lot
from onesheetmore.lots import lot_plus
from onesheetmore.placing import Placer
from onesheetmore.verdicts import goes_in
from layingsamples import is_laying_of, lot_of_pieces, pieces_of
from rulesamples import FOUR, KINDS, crossing_in, overs_in, random_sets, rule_sets
from samples import SIX, STOCK, THIRTY, THREE, TWELVE, TWO, check_refusals, read_no_error, refusal_of
from test_layings import random_stock
import samples


def fork_in(kinds):
    crossing = crossing_in(kinds)
    return (max([y[0] for y, _ in crossing]), max([z[1] for _, z in crossing])) if crossing else None


def least_opened(lists, stock, kinds, taken):
    """The least numbers of shares (A, B) that flat and tall pieces need beside their ground: one after the other."""
    fork, told = fork_in(kinds), []
    for side in (1, 2):
        own = tuple([entry for entry in taken if fork and entry[2 - side] < fork[2 - side]])
        ground = tuple([(lists[0][a], lists[1][b], many) for a, b, many in own_ground(lists, stock, kinds)[side]])
        many = 0
        while not goes_in(lists, ground + (((lists[0][fork[0]], lists[1][fork[1]], many),) if many else ()), own):
            many += 1
        told.append(many)
    return tuple(told)


def some_orders(kinds, rng, many):
    return [(*rng.choice(kinds), rng.choice([0, 1, 1, 2, 3, 5, 40])) for _ in range(many)]


class PlacerTest(unittest.TestCase):
    def test_example(self):
        placer = Placer(THREE, STOCK, KINDS)
        boxes = placer.take(1, 1, 2)
        self.assertEqual(laying_lot(THREE, STOCK, boxes), ((1, 1, 2),))
        self.assertEqual([placer.opened(), placer.taken(), placer.room(2, 2), placer.room(1, 1), placer.room(0, 2)],
                         [(1, 0), ((1, 1, 2),), 1, 7, 6])

    def check_order(self, placer, given, order):
        """One order beside what the placer has; whether it was laid wholly."""
        lists, stock, kinds = given
        a, b, many = order
        before, laid = placer.taken(), placer.laid()
        room = placer.room(a, b)
        self.assertEqual(room, most_more(lists, stock, before, a, b))
        told = placer.take(a, b, many)
        taken = min(room, many)
        grown = lot_plus(lists, before, ((a, b, taken),) if taken else ())
        self.assertEqual(lot_of_pieces(pieces_of(told)), ((a, b, taken),) if taken else ())
        self.assertEqual(told == (), taken == 0)
        self.assertEqual(placer.laid(), laid + told)
        self.assertTrue(is_laying_of(lists, stock)(placer.laid()), (given, order))
        self.assertEqual(placer.taken(), grown)
        self.assertEqual(taken == many, goes_in(lists, stock, lot_plus(lists, before, ((*order,),) if many else ())))
        self.assertEqual(placer.opened(), least_opened(lists, stock, kinds, grown))
        return taken == many

    def test_orders(self):
        rng = random.Random(76)
        found, opened = set(), set()
        for forked, many in ((True, 90), (False, 50)):
            for lists, kinds in rule_sets(many, 78, forked):
                stock = random_stock(lists, rng)
                if sum([width * height * count for width, height, count in stock]) > 1500:
                    continue
                placer = Placer(lists, stock, kinds)
                for order in some_orders(kinds, rng, 10):
                    found.add(self.check_order(placer, (lists, stock, kinds), order))
                opened.add(tuple([number > 0 for number in placer.opened()]))
        self.assertEqual(found, {True, False})
        self.assertEqual(len(opened), 4)

    def test_sequence_of_orders(self):
        rng = random.Random(77)
        seen = 0
        for lists, kinds in rule_sets(80, 79, True):
            stock = random_stock(lists, rng)
            first, wholly = Placer(lists, stock, kinds), []
            for a, b, many in some_orders(kinds, rng, 14):
                if first.room(a, b) >= many:
                    first.take(a, b, many)
                    wholly.append((a, b, many))
            seen += len(wholly) > 4
            for _ in range(3):
                rng.shuffle(wholly)
                other = Placer(lists, stock, kinds)
                for a, b, many in wholly:
                    self.assertEqual(laying_lot(lists, stock, other.take(a, b, many)), ((a, b, many),) if many else ())
                self.assertEqual(other.opened(), first.opened())
                for kind in kinds:
                    self.assertEqual(other.room(*kind), first.room(*kind))
        self.assertGreater(seen, 20)

    def test_until_full(self):
        # Single pieces of all kinds by turns: nothing is refused that goes in, and in the end nothing does.
        rng = random.Random(78)
        for lists, kinds in rule_sets(25, 80, True):
            if lists == FOUR:
                continue
            stock = random_stock(lists, rng)[:2]
            placer, lot = Placer(lists, stock, kinds), ()
            for _ in range(400):
                kind = rng.choice(kinds)
                grown = lot_plus(lists, lot, ((*kind, 1),))
                told = placer.take(*kind, 1)
                self.assertEqual(told != (), goes_in(lists, stock, grown))
                lot = grown if told else lot
            self.assertEqual(lets_laying(lists, stock, placer.laid()), lot)

    def test_forty_large_orders(self):
        rng = random.Random(79)
        for lists, kinds in ((FOUR, ((0, 3), (1, 3), (2, 1), (2, 2), (2, 3), (3, 3))), (SIX, ((2, 5), (3, 5), (4, 1), (4, 4)))):
            self.assertEqual(overs_in(kinds), [])
            stock = tuple([(rng.randint(10 ** 11, TWELVE), rng.randint(10 ** 11, TWELVE), rng.randint(1, THIRTY))
                           for _ in range(4)])
            placer, lot = Placer(lists, stock, kinds), ()
            for at in range(40):
                a, b = rng.choice(kinds)
                room = placer.room(a, b)
                many = room if at == 39 else rng.randint(0, room // 3) + rng.randint(0, 2)
                told = placer.take(a, b, many)
                laid = ((a, b, min(many, room)),) if min(many, room) else ()
                self.assertEqual(laying_lot(lists, stock, told), laid)
                lot = lot_plus(lists, lot, laid)
            self.assertEqual(lets_laying(lists, stock, placer.laid()), lot)
            self.assertEqual((placer.taken(), placer.room(a, b), placer.take(a, b, THIRTY)), (lot, 0, ()))
            self.assertGreater(min(placer.opened()), 10 ** 20)

    def test_edges(self):
        empty = Placer(THREE, STOCK, ())
        self.assertEqual([empty.laid(), empty.taken(), empty.opened()], [(), (), (0, 0)])
        self.assertEqual(refusal_of(lambda: empty.take(0, 0, 1)), ("b", -1))
        bare = Placer(THREE, (), KINDS)
        self.assertEqual([bare.take(2, 2, 5), bare.room(1, 0), bare.laid(), bare.opened()], [(), 0, (), (0, 0)])
        chain = Placer(TWO, ((3, 3, 1),), ((0, 0), (0, 1), (1, 1)))
        self.assertEqual([laying_lot(TWO, ((3, 3, 1),), chain.take(0, 1, 9)), chain.opened(), chain.take(1, 1, 1)],
                         [((0, 1, 3),), (0, 0), ()])
        self.assertEqual([chain.take(0, 0, 0), chain.room(0, 0), chain.taken()], [(), 3, ((0, 1, 3),)])

    def test_no_rule(self):
        seen = 0
        for lists, kinds in random_sets(100, 80):
            if overs_in(kinds):
                error = read_no_error(lambda: Placer(lists, STOCK, kinds))
                self.assertEqual((type(error), error.kinds), (NoRule, overs_in(kinds)[0]))
                seen += 1
        self.assertGreater(seen, 20)

    def test_refusals(self):
        given = {"lists": THREE, "stock": STOCK, "kinds": KINDS}
        check_refusals(self, Placer, given, {"kinds": samples.is_kinds(THREE)})
        placer = Placer(**given)
        placer.take(a=1, b=1, many=1)
        before = (placer.laid(), placer.taken(), placer.opened())
        tests = {"a": samples.is_below(3), "b": lambda thing: samples.is_number(thing) and thing < 2}
        check_refusals(self, placer.room, {"a": 1, "b": 0}, tests)
        check_refusals(self, placer.take, {"a": 1, "b": 0, "many": 0}, {**tests, "many": samples.is_number})
        for a, b in ((0, 0), (0, 1), (1, 2), (2, 0), (2, 1)):
            self.assertEqual(refusal_of(lambda: placer.room(a, b)), ("b", -1))
            self.assertEqual(refusal_of(lambda: placer.take(a, b, None)), ("b", -1))
        self.assertEqual((placer.laid(), placer.taken(), placer.opened()), before)
        self.assertEqual(placer.room(a=2, b=2), placer.room(2, 2))


if __name__ == "__main__":
    unittest.main()
