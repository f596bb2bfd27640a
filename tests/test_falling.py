"""Point 77 and (G10): a rule for orders of pieces that never get taller, or never wider."""

import random
import unittest

from onesheetmore.falling import Falling
from onesheetmore.further import most_more
from onesheetmore.layingchecker import lets_laying
from onesheetmore.listforms import turned_lists, turned_stock
from onesheetmore.lookups import laying_lot
from onesheetmore.lots import lot_plus
from onesheetmore.verdicts import goes_in
from layingsamples import is_laying_of, lot_of_pieces, pieces_of
from rulesamples import FOUR, ROWS
from samples import SIX, STOCK, THIRTY, THREE, TWELVE, TWO, all_kinds, check_refusals, refusal_of
from test_layings import random_stock
from test_staircases import WAYS
import samples

NINE = ((3, 3, 1),)


class FallingTest(unittest.TestCase):
    def test_example(self):
        falling = Falling(TWO, NINE, "heights")
        boxes = falling.take(0, 1, 2)
        self.assertEqual(laying_lot(TWO, NINE, boxes), ((0, 1, 2),))
        self.assertEqual([falling.room(0, 1), falling.room(1, 0), falling.room(0, 0)], [1, 1, 5])
        self.assertEqual([len(falling.take(1, 0, 2)), falling.taken()], [1, ((0, 1, 2), (1, 0, 1))])
        self.assertEqual(refusal_of(lambda: falling.take(0, 1, 0)), ("b", -1))

    def check_order(self, falling, given, order):
        """One order beside all that is laid; whether it was laid wholly."""
        lists, stock, at = given
        a, b, many = order
        before, laid = falling.taken(), falling.laid()
        lowest = min([entry[at] for entry in before], default=len(lists[at]))
        if order[at] > lowest:
            for call in (lambda: falling.room(a, b), lambda: falling.take(a, b, many), lambda: falling.take(a, b, None)):
                self.assertEqual(refusal_of(call), ("ab"[at], -1))
            self.assertEqual((falling.laid(), falling.taken()), (laid, before))
            return None
        room = falling.room(a, b)
        self.assertEqual(room, most_more(lists, stock, before, a, b))
        taken = min(room, many)
        told = falling.take(a, b, many)
        self.assertEqual(lot_of_pieces(pieces_of(told)), ((a, b, taken),) if taken else ())
        self.assertEqual(told == (), taken == 0)
        self.assertEqual(falling.laid(), laid + told)
        self.assertTrue(is_laying_of(lists, stock)(falling.laid()), (given, order))
        self.assertEqual(falling.taken(), lot_plus(lists, before, ((a, b, taken),) if taken else ()))
        self.assertEqual(taken == many, goes_in(lists, stock, lot_plus(lists, before, ((*order,),) if many else ())))
        return taken == many

    def test_orders(self):
        rng = random.Random(177)
        found = set()
        for _ in range(130):
            lists, at = rng.choice(ROWS), rng.randrange(2)
            stock = random_stock(lists, rng)
            if sum([width * height * count for width, height, count in stock]) > 1500:
                continue
            falling = Falling(lists, stock, ("widths", "heights")[at])
            for step in range(12):
                # Mostly downward: pieces may stay as tall, or get lower by more than one step.
                limit = min([entry[at] for entry in falling.taken()], default=len(lists[at]) - 1)
                own = max(0, min(limit, limit - rng.choice([0, 0, 0, 1, 2]) + (rng.random() < 0.1)))
                other = rng.randrange(len(lists[1 - at]))
                kind = (other, own) if at == 1 else (own, other)
                order = (*kind, rng.choice([0, 1, 1, 2, 3, 7, 60]))
                found.add(self.check_order(falling, (lists, stock, at), order))
            found.add(self.check_order(falling, (lists, stock, at), (*[len(row) - 1 for row in lists], 1)))
        self.assertEqual(found, {True, False, None})

    def test_single_pieces(self):
        rng = random.Random(178)
        for _ in range(25):
            lists = rng.choice(ROWS[:7])
            stock = random_stock(lists, rng)[:2]
            for at, way in ((0, "widths"), (1, "heights")):
                falling, lot = Falling(lists, stock, way), ()
                for own in reversed(range(len(lists[at]))):
                    for _ in range(12):
                        other = rng.randrange(len(lists[1 - at]))
                        kind = (other, own) if at == 1 else (own, other)
                        grown = lot_plus(lists, lot, ((*kind, 1),))
                        told = falling.take(*kind, 1)
                        self.assertEqual(told != (), goes_in(lists, stock, grown))
                        lot = grown if told else lot
                self.assertEqual(lets_laying(lists, stock, falling.laid()), lot)

    def test_turned(self):
        rng = random.Random(179)
        for _ in range(30):
            lists = rng.choice(ROWS)
            stock = random_stock(lists, rng)
            one = Falling(lists, stock, "heights")
            other = Falling(turned_lists(lists), turned_stock(stock), "widths")
            for a, b in sorted(all_kinds(lists), key=lambda kind: -kind[1]):
                many = rng.randint(0, 9)
                self.assertEqual(one.room(a, b), other.room(b, a))
                told, turned = one.take(a, b, many), other.take(b, a, many)
                self.assertEqual([(b, a, count) for a, b, count in lot_of_pieces(pieces_of(told))],
                                 list(lot_of_pieces(pieces_of(turned))))

    def test_an_order_of_which_nothing_is_laid(self):
        falling = Falling(TWO, NINE, "heights")
        self.assertEqual([falling.take(0, 0, 0), falling.take(1, 1, 0), falling.taken()], [(), (), ()])
        self.assertEqual(falling.room(1, 1), 1)
        falling.take(1, 1, 9)
        # No further great piece goes in; a lower order of nothing changes nothing.
        self.assertEqual([falling.take(1, 1, 1), falling.take(1, 0, 0), falling.room(0, 1)], [(), (), 1])
        self.assertEqual(laying_lot(TWO, NINE, falling.take(0, 1, 9)), ((0, 1, 1),))
        self.assertEqual([falling.room(1, 0), falling.room(0, 0)], [1, 3])

    def test_forty_large_orders(self):
        rng = random.Random(180)
        for lists, at, way in ((FOUR, 0, "widths"), (FOUR, 1, "heights"), (SIX, 1, "heights")):
            stock = tuple([(rng.randint(10 ** 11, TWELVE), rng.randint(10 ** 11, TWELVE), rng.randint(1, THIRTY))
                           for _ in range(4 if lists == FOUR else 2)])
            falling, lot = Falling(lists, stock, way), ()
            for own in sorted([rng.randrange(len(lists[at])) for _ in range(40)], reverse=True):
                other = rng.randrange(len(lists[1 - at]))
                kind = (other, own) if at == 1 else (own, other)
                many = rng.randint(0, falling.room(*kind) // 4)
                self.assertEqual(laying_lot(lists, stock, falling.take(*kind, many)), ((*kind, many),) if many else ())
                lot = lot_plus(lists, lot, ((*kind, many),) if many else ())
            self.assertEqual(lets_laying(lists, stock, falling.laid()), lot)

    def test_edges(self):
        for way in WAYS:
            bare = Falling(THREE, (), way)
            self.assertEqual([bare.take(2, 2, 5), bare.room(0, 0), bare.laid(), bare.taken()], [(), 0, (), ()])

    def test_refusals(self):
        given = {"lists": THREE, "stock": STOCK, "way": "heights"}
        check_refusals(self, Falling, given, {"way": lambda thing: type(thing) is str and thing in WAYS})
        for way, limits in (("heights", (3, 2)), ("widths", (2, 3))):
            falling = Falling(lists=THREE, stock=STOCK, way=way)
            tests = {"a": samples.is_below(3), "b": samples.is_below(3)}
            check_refusals(self, falling.room, {"a": 2, "b": 2}, tests)
            check_refusals(self, falling.take, {"a": 2, "b": 2, "many": 0}, {**tests, "many": samples.is_number})
            falling.take(a=1, b=1, many=1)
            before = (falling.laid(), falling.taken())
            tests = {name: samples.is_below(limit) for name, limit in zip("ab", limits)}
            check_refusals(self, falling.room, {"a": 1, "b": 1}, tests)
            check_refusals(self, falling.take, {"a": 1, "b": 1, "many": 0}, {**tests, "many": samples.is_number})
            self.assertEqual((falling.laid(), falling.taken()), before)
            self.assertEqual(falling.room(a=0, b=1), falling.room(0, 1))


if __name__ == "__main__":
    unittest.main()
