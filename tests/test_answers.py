"""Points 99 and 100: answers, and the class of them."""

import random
import unittest

from onesheetmore.answerclasses import Answer
from onesheetmore.answers import answer
from onesheetmore.linerooms import line_refusal
from onesheetmore.listforms import used_lists
from onesheetmore.stocks import sheets_in
from onesheetmore.twosizes import two_goes
from onesheetmore.verdicts import goes_in, verdict
from rulesamples import ROWS
from samples import (
    ANY, ODD, ROUND, SIX, STOCK, THIRTY, THREE, TWELVE, TWO, all_kinds, changed, check_calls, check_refusals, refusal_of)
from test_chainrooms import CHAIN
from test_search import STOCKS, as_lot, counts_beside, is_told, lots_of, sheets_of
import samples

NINE = ((3, 3, 1),)
DEARER = ((0, 1, 3), (1, 0, 6))


def definition(lists, stock, lot):
    """The words of point 99: the first pair whose condition holds."""
    used, own_lot = used_lists(lists, lot)
    if goes_in(lists, stock, lot):
        return ("yes", "shares")
    if verdict(lists, stock, lot) == "no":
        return ("no", "staircase")
    if sheets_in(stock) == 1 and len(used[0]) == 2 and len(used[1]) == 2:
        return ("yes" if two_goes(used, stock[0][:2], own_lot) else "no", "wheel")
    if len({sheet[:2] for sheet in stock}) == 1 and line_refusal(lists, stock[0][:2], lot, sheets_in(stock)) is not None:
        return ("no", "lines")
    return ("open", "none")


def near_lot(lists, stock, rng):
    """A lot of about the stock's area, of pieces not as great as the sheets."""
    left, counts = sum([width * height * many for width, height, many in stock]), {}
    kinds = rng.sample(all_kinds(lists), min(len(all_kinds(lists)), rng.choice([2, 2, 3, 4])))
    while rng.random() < 0.98:
        kind = rng.choice(kinds)
        left -= lists[0][kind[0]] * lists[1][kind[1]]
        if left < 0:
            break
        counts[kind] = counts.get(kind, 0) + 1
    return tuple([(*kind, counts[kind]) for kind in sorted(counts)])


class AnswersTest(unittest.TestCase):
    def test_examples(self):
        self.assertEqual([answer(TWO, NINE, ROUND), answer(TWO, NINE, CHAIN)], [("yes", "wheel"), ("no", "staircase")])
        self.assertEqual([answer(TWO, ((3, 3, 2),), DEARER), answer(TWO, ((3, 3, 1), (3, 5, 1)), ((0, 1, 4), (1, 0, 7)))],
                         [("no", "lines"), ("open", "none")])

    def test_against_the_words(self):
        rng = random.Random(99)
        found = set()
        for _ in range(1500):
            lists = rng.choice(ROWS[:7])
            sheets = [(rng.randint(1, 3 * lists[0][-1]), rng.randint(1, 3 * lists[1][-1])) for _ in range(2)]
            stock = rng.choice([((*sheets[0], 1),), ((*sheets[0], 2),), ((*sheets[0], 1), (*sheets[0], 2)),
                                ((*sheets[0], 1), (*sheets[1], 1))])
            lot = near_lot(lists, stock, rng)
            told = answer(lists, stock, lot)
            self.assertEqual(told, definition(lists, stock, lot))
            found.add(told)
        self.assertGreater(len(found), 4)

    def test_beside_a_search_through_spreads(self):
        found = set()
        for lists, stock in STOCKS + [(THREE, NINE), (TWO, ((3, 3, 1), (3, 3, 1)))]:
            spread = lots_of(lists, sheets_of(stock), False)
            for counts in counts_beside(lists, spread):
                lot, can_be = as_lot(lists, counts), is_told(spread, counts)
                what, why = answer(lists, stock, lot)
                self.assertEqual((what, why), definition(lists, stock, lot))
                self.assertTrue(what == "open" or can_be == (what == "yes"), (lists, stock, lot))
                found.add((what, why))
        self.assertEqual(found, {("yes", "shares"), ("no", "staircase"), ("yes", "wheel"), ("no", "wheel"), ("no", "lines"),
                                 ("open", "none")})

    def test_own_sizes(self):
        # By three sizes of which the lot uses two each, one sheet is judged as by these two.
        lists = ((1, 2, 6), (1, 3, 6))
        lot = ((0, 1, 2), (1, 0, 2))
        self.assertEqual([answer(lists, ((3, 4, 1),), lot), answer(lists, ((3, 4, 1),), ((0, 1, 2), (1, 0, 3)))],
                         [("yes", "wheel"), ("no", "wheel")])
        self.assertEqual(answer(THREE, ((3, 3, 1),), ((0, 1, 2), (1, 0, 2))), ("yes", "wheel"))
        self.assertEqual(answer(TWO, ((3, 3, 1), (3, 3, 1)), DEARER), ("no", "lines"))

    def test_edges(self):
        for lists in (TWO, SIX):
            for stock in ((), STOCK, NINE):
                self.assertEqual(answer(lists, stock, ()), ("yes", "shares"))
            self.assertEqual(answer(lists, (), ROUND), ("no", "staircase"))
        self.assertEqual(answer(TWO, ((TWELVE, TWELVE, THIRTY),), ((0, 1, THIRTY), (1, 0, THIRTY))), ("yes", "shares"))
        self.assertEqual(answer(TWO, ((TWELVE, TWELVE, 1),), ((0, 1, THIRTY), (1, 0, THIRTY)))[0], "no")

    def test_refusals(self):
        given = {"lists": TWO, "stock": NINE, "lot": ROUND}
        check_refusals(self, answer, given, {"lot": samples.is_lot(TWO)})
        check_calls(self, answer, given)


class AnswerClassTest(unittest.TestCase):
    def test_example(self):
        one = Answer(TWO, NINE, ROUND)
        self.assertEqual([one.what(), one.why(), one.with_stock(((4, 2, 1),)).why()], ["yes", "wheel", "shares"])

    def test_methods(self):
        one = Answer(lists=TWO, stock=NINE, lot=ROUND)
        for lot in (CHAIN, (), DEARER):
            other = one.with_lot(lot)
            self.assertIsInstance(other, Answer)
            self.assertEqual((other.what(), other.why()), answer(TWO, NINE, lot))
            self.assertTrue(other == Answer(TWO, NINE, lot))
        for stock in (STOCK, (), ((3, 3, 2),)):
            other = one.with_stock(stock=stock)
            self.assertEqual((other.what(), other.why()), answer(TWO, stock, ROUND))
            self.assertTrue(other == Answer(TWO, stock, ROUND))
        self.assertEqual((one.what(), one.why()), ("yes", "wheel"))

    def test_equal(self):
        one = Answer(TWO, NINE, ROUND)
        self.assertTrue(one == Answer(TWO, NINE, ROUND) and not one != Answer(TWO, NINE, ROUND))
        for other in (Answer(ODD, NINE, ROUND), Answer(TWO, STOCK, ROUND), Answer(TWO, NINE, CHAIN), ("yes", "wheel"), None,
                      (TWO, NINE, ROUND), True):
            self.assertFalse(one == other)
            self.assertTrue(one != other)

    def test_refusals(self):
        given = {"lists": TWO, "stock": NINE, "lot": ROUND}
        check_refusals(self, Answer, given, {"lot": samples.is_lot(TWO)})
        one = Answer(**given)
        check_refusals(self, one.with_lot, {"lot": ROUND}, {"lot": samples.is_lot(TWO)})
        check_refusals(self, one.with_stock, {"stock": STOCK}, {"stock": samples.is_stock})
        for thing in ANY + changed(STOCK):
            if not samples.is_stock(thing):
                self.assertEqual(refusal_of(lambda: one.with_stock(thing)), ("stock", -1))


if __name__ == "__main__":
    unittest.main()
