"""Points 79 to 82: diaries, their checker, what was needless, and the class."""

import random
import unittest

from onesheetmore.diaries import diary_lot, diary_spread, had_place, is_diary, needless
from onesheetmore.diarychecker import lets_diary
from onesheetmore.diaryclasses import Diary
from onesheetmore.errors import InvalidPaper, NotWhole
from onesheetmore.openings import free_place
from onesheetmore.verdicts import goes_in
from onesheetmore.wholes import whole_ways
from diarysamples import (
    DIARY, WHOLE_FLOORS, first_fault, is_diary_of, is_entry_of, is_let_diary, loose_diaries, pieces_laid, random_diaries)
from layingsamples import lot_of_pieces
from samples import (
    ANY, ODD, SIX, STOCK, THIRTY, THREE, TWELVE, TWO, changed, check_calls, check_refusals, read_no_error, refusal_of)
from spreadsamples import NINE, TWENTY, do_overlap, is_piece_of, is_within, long_row
from test_search import as_lot, is_told, lots_of, sheets_of
import samples

FOUR = ((2, 2, 1),)


def laid_ahead(diary, i):
    return tuple([piece for _, piece in pieces_laid(diary[:i])])


def refused_in(diary):
    return [i for i, entry in enumerate(diary) if entry[2] is None]


class DiariesTest(unittest.TestCase):
    def test_examples(self):
        self.assertEqual(diary_lot(TWO, DIARY), ((0, 0, 2),))
        self.assertEqual([needless(TWO, FOUR, DIARY), had_place(TWO, FOUR, DIARY)], [2, ()])

    def test_is_diary(self):
        found = set()
        for thing in ANY + changed(DIARY) + [DIARY, DIARY[::-1], (DIARY,), list(DIARY), (list(DIARY[0]),)]:
            for lists in (TWO, THREE, ODD, ((1,), (1,))):
                expected = is_diary_of(lists)(thing)
                self.assertIs(is_diary(lists, thing), expected, thing)
                found.add(expected)
        self.assertEqual(found, {True, False})
        for spot in ((0, 0, (2, 4), (0, 1)), (0, 0, (0, 1), (-1, 2)), (0, 0, 0, 0), (0, 0, (0, 1)), (-1, 0, (0, 1), (0, 1)),
                     (0, True, (0, 1), (0, 1)), [0, 0, (0, 1), (0, 1)], (), False, 0, "-"):
            self.assertIs(is_diary(TWO, ((0, 0, spot),)), False)
        self.assertIs(is_diary(TWO, ((1, 1, (10 ** 59, 10 ** 58, (TWENTY, 10 ** 20), (1, 3))),)), True)
        self.assertIs(is_diary(TWO, ()), True)

    def test_lot_and_spread(self):
        for lists, _, diary in list(loose_diaries(150, 79)) + random_diaries(60, 80):
            pieces = laid_ahead(diary, len(diary))
            self.assertEqual(diary_spread(lists, diary), pieces)
            self.assertEqual(diary_lot(lists, diary), lot_of_pieces(pieces))
        self.assertEqual([diary_lot(TWO, ()), diary_spread(TWO, ())], [(), ()])

    def test_needless(self):
        found = set()
        for lists, stock, diary in random_diaries(200, 81) + random_diaries(150, 82, WHOLE_FLOORS):
            told = read_no_error(lambda: needless(lists, stock, diary))
            cut = [sort for sort, sheet in enumerate(stock) if whole_ways(lists, sheet[:2]) == "neither"]
            if cut:
                self.assertEqual((type(told), told.index), (NotWhole, cut[0]))
                found.add("neither")
                continue
            # On sheets that are whole one way a lot can be spread exactly if it goes in.
            able = [i for i in refused_in(diary) if goes_in(
                lists, stock, lot_of_pieces([*laid_ahead(diary, i), diary[i][:2]]))]
            self.assertEqual(told, able[0] if able else None)
            found.add(told is None)
        self.assertEqual(found, {True, False, "neither"})

    def test_needless_beside_a_search(self):
        found = set()
        for lists, stock, diary in random_diaries(60, 83, [WHOLE_FLOORS[0], (TWO, ((3, 2, 1),)), (ODD, ((3, 4, 1),))]):
            most = lots_of(lists, sheets_of(stock), False)
            able = []
            for i in refused_in(diary):
                kinds = [*[piece[:2] for piece in laid_ahead(diary, i)], diary[i][:2]]
                counts = tuple([kinds.count(kind) for kind in samples.all_kinds(lists)])
                self.assertEqual(as_lot(lists, counts), lot_of_pieces(kinds))
                able.extend([i] if is_told(most, counts) else [])
            self.assertEqual(needless(lists, stock, diary), able[0] if able else None)
            found.add(able == [])
        self.assertEqual(found, {True, False})

    def test_had_place(self):
        found = set()
        for lists, stock, diary in random_diaries(250, 84):
            told = had_place(lists, stock, diary)
            expected = [i for i in refused_in(diary)
                        if free_place(lists, stock, laid_ahead(diary, i), *diary[i][:2]) is not None]
            self.assertEqual(told, tuple(expected))
            found.add((len(expected) > 0, len(expected) < len(refused_in(diary))))
            if told:
                self.assertIsNone(first_fault(lists, stock, diary))
        self.assertEqual(len(found), 4)

    def test_places_in_fractions(self):
        # A gap as wide as a piece between pieces at fractions; a stretch that is long enough but in two parts.
        stock = ((4, 1, 1),)
        diary = ((0, 0, (0, 0, (1, 2), (0, 1))), (0, 0, (0, 0, (5, 2), (0, 1))), (0, 0, None), (1, 0, None),
                 (0, 0, (0, 0, (3, 2), (0, 1))), (0, 0, None))
        self.assertEqual(had_place(TWO, stock, diary), (2,))
        self.assertEqual(needless(TWO, stock, diary), 2)
        self.assertEqual(needless(TWO, stock, diary[3:]), 0)
        self.assertEqual(needless(TWO, stock, (diary[0], diary[1], diary[3])), 2)
        self.assertEqual(had_place(TWO, stock, (diary[0], diary[1], diary[3])), ())

    def test_edges(self):
        self.assertEqual([needless(TWO, (), ()), had_place(TWO, (), ()), needless(TWO, FOUR, ()), had_place(TWO, NINE, ())],
                         [None, (), None, ()])
        self.assertEqual([needless(TWO, (), ((0, 0, None),)), had_place(TWO, (), ((0, 0, None),))], [None, ()])
        error = read_no_error(lambda: needless(TWO, FOUR + NINE + NINE, ()))
        self.assertEqual((type(error), error.index), (NotWhole, 1))
        lists, stock, spread = long_row(59)
        diary = tuple([(*piece[:2], piece[2:]) for piece in spread]) + ((0, 1, None),)
        self.assertEqual(lets_diary(lists, stock, diary), (((1, 0, 59),), 1))
        self.assertEqual(had_place(lists, stock, diary), (59,))
        self.assertEqual(needless(lists, ((TWELVE - 1, TWELVE, THIRTY),), diary), 59)

    def test_refusals(self):
        given = {"lists": TWO, "diary": DIARY}
        for function in (diary_lot, diary_spread):
            check_refusals(self, function, given, {"diary": is_diary_of(TWO)})
            check_calls(self, function, given)
        given = {"lists": TWO, "stock": FOUR, "diary": DIARY}
        for function in (needless, had_place):
            check_refusals(self, function, given, {"diary": is_let_diary(TWO, FOUR)})
            check_calls(self, function, given)
        check_calls(self, is_diary, {"lists": TWO, "thing": DIARY})
        seen = 0
        for lists, stock, diary in loose_diaries(100, 85):
            if first_fault(lists, stock, diary) is not None:
                self.assertEqual(refusal_of(lambda: needless(lists, stock, diary)), ("diary", -1))
                self.assertEqual(refusal_of(lambda: had_place(lists, stock, diary)), ("diary", -1))
                seen += 1
        self.assertGreater(seen, 20)
        # The diary is looked at ahead of the sheets.
        self.assertEqual(refusal_of(lambda: needless(TWO, NINE, None)), ("diary", -1))


class DiaryCheckerTest(unittest.TestCase):
    def assert_fault(self, thing, word, at, lists=TWO, stock=FOUR):
        before = repr(thing)
        with self.assertRaises(InvalidPaper) as caught:
            lets_diary(lists, stock, thing)
        self.assertEqual((caught.exception.word, caught.exception.at), (word, at), thing)
        self.assertEqual(repr(thing), before)

    def test_first_fault(self):
        good, refused, outside = DIARY[0], (1, 1, None), (1, 0, (0, 0, (1, 2), (0, 1)))
        self.assertEqual(lets_diary(TWO, FOUR, DIARY), (((0, 0, 2),), 1))
        for thing in (None, 0, True, "", [], list(DIARY), [()]):
            self.assert_fault(thing, "diary", -1)
        for thing in [None, (), 0, "", list(good), (0, 0), (2, 0, None), (0, 2, None), (0, True, None), (0, 0, False)] + [
                other for other in changed(good) if not is_entry_of(TWO)(other)]:
            self.assert_fault((thing,), "entry", 0)
            self.assert_fault((good, good, refused, thing, outside), "entry", 3)
            self.assert_fault((refused, outside, thing), "inside", 1)
        for thing in (outside, (0, 0, (1, 0, (0, 1), (0, 1))), (0, 0, (0, 1, (0, 1), (0, 1))), (0, 1, (0, 0, (0, 1), (1, 3))),
                      (0, 0, (10 ** 59, 0, (0, 1), (0, 1))), (0, 0, (0, 0, (TWENTY + 1, TWENTY), (0, 1)))):
            self.assert_fault((thing,), "inside", 0)
            self.assert_fault((good, refused, good, thing, None), "inside", 3)
        self.assert_fault((good,), "inside", 0, stock=())
        self.assert_fault((refused, good, refused, good, good), "overlap", (3, 1))
        one, two = (1, 0, (0, 0, (0, 1), (0, 1))), (0, 1, (0, 0, (0, 1), (0, 1)))
        self.assert_fault((DIARY[1], one, refused, refused, two, good), "overlap", (4, 1))
        self.assert_fault((one, DIARY[1], refused, (0, 1, (0, 0, (1, 1), (0, 1)))), "overlap", (3, 0))

    def test_against_fractions(self):
        found = set()
        for lists, stock, diary in list(loose_diaries(400, 86)) + random_diaries(60, 87):
            fault = first_fault(lists, stock, diary)
            found.add(fault and fault[0])
            if fault is not None:
                self.assert_fault(diary, *fault, lists, stock)
            else:
                pieces = laid_ahead(diary, len(diary))
                self.assertEqual(lets_diary(lists, stock, diary), (lot_of_pieces(pieces), len(refused_in(diary))))
        self.assertEqual(found, {None, "inside", "overlap"})

    def test_any_value(self):
        for thing in ANY + changed(DIARY):
            if is_let_diary(TWO, FOUR)(thing):
                self.assertEqual(lets_diary(TWO, FOUR, thing)[1], len(refused_in(thing)))
            else:
                with self.assertRaises(InvalidPaper):
                    lets_diary(TWO, FOUR, thing)
        self.assertEqual([lets_diary(TWO, FOUR, ()), lets_diary(TWO, (), ((0, 0, None),))], [((), 0), ((), 1)])
        check_calls(self, lets_diary, {"lists": TWO, "stock": FOUR, "thing": DIARY})


class DiaryClassTest(unittest.TestCase):
    def test_written_entry_by_entry(self):
        for lists, stock, diary in random_diaries(80, 88):
            one = Diary(lists, stock)
            self.assertEqual((len(one), one.entries()), (0, ()))
            for i, (a, b, spot) in enumerate(diary):
                self.assertIsNone(one.note(a, b, spot))
                self.assertEqual((len(one), one.entries()), (i + 1, diary[:i + 1]))
            self.assertEqual((one.lot_of_it(), one.spread_of_it()), (diary_lot(lists, diary), diary_spread(lists, diary)))
            self.assertEqual(one.had_place(), had_place(lists, stock, diary))
            told, expected = read_no_error(one.needless), read_no_error(lambda: needless(lists, stock, diary))
            if isinstance(expected, NotWhole):
                self.assertEqual((type(told), told.index), (NotWhole, expected.index))
            else:
                self.assertEqual(told, expected)

    def test_equal(self):
        def written(lists, stock, entries):
            one = Diary(lists, stock)
            for entry in entries:
                one.note(*entry)
            return one
        one = written(TWO, FOUR, DIARY)
        self.assertTrue(one == written(TWO, FOUR, DIARY) and not one != written(TWO, FOUR, DIARY))
        for other in (written(TWO, FOUR, DIARY[:2]), written(TWO, FOUR, (DIARY[1], DIARY[0], DIARY[2])),
                      written(TWO, ((2, 2, 2),), DIARY), written(THREE, FOUR, DIARY), Diary(TWO, FOUR), DIARY, None, 3):
            self.assertFalse(one == other)
            self.assertTrue(one != other)
        self.assertTrue(Diary(TWO, FOUR) == Diary(TWO, FOUR))

    def test_notes_that_are_refused(self):
        one = Diary(TWO, FOUR)
        one.note(0, 0, (0, 0, (1, 2), (1, 2)))
        laid = (0, 0, 0, 0, (1, 2), (1, 2))

        def is_own_spot(thing):
            if thing is None:
                return True
            piece = (0, 0, *thing) if type(thing) is tuple else ()
            return is_piece_of(TWO)(piece) and is_within(TWO, FOUR, piece) and not do_overlap(TWO, piece, laid)
        before = one.entries()
        tests = {"a": samples.is_below(2), "b": samples.is_below(2), "spot": is_own_spot}
        given = {"a": 0, "b": 0, "spot": None}
        names = list(given)
        for at, name in enumerate(names):
            for thing in ANY + changed(given[name]) + changed((0, 0, (0, 1), (1, 1))):
                if not tests[name](thing):
                    self.assertEqual(refusal_of(lambda: one.note(**{**given, name: thing})), (name, -1), thing)
            for later in names[at + 1:]:
                self.assertEqual(refusal_of(lambda: one.note(**{**given, name: -1, later: -1})), (name, -1))
        for a, b, spot in ((0, 0, (0, 0, (1, 1), (0, 1))), (1, 0, (0, 0, (0, 1), (1, 1))), (1, 1, (0, 0, (0, 1), (0, 1))),
                           (1, 0, (0, 0, (1, 3), (0, 1))), (0, 0, (0, 1, (0, 1), (0, 1))), (0, 0, (1, 0, (0, 1), (0, 1)))):
            self.assertEqual(refusal_of(lambda: one.note(a, b, spot)), ("spot", -1))
        self.assertEqual((one.entries(), len(one)), (before, 1))
        one.note(a=1, b=0, spot=None)
        self.assertEqual(one.entries(), (*before, (1, 0, None)))

    def test_large(self):
        rng = random.Random(89)
        one = Diary(SIX, ((TWELVE, TWELVE, THIRTY),))
        for i in range(60):
            spot = (0, THIRTY - 1, (40 * i * TWENTY + rng.randint(1, TWENTY), TWENTY), (1, 10 ** 20))
            one.note(rng.randrange(6), rng.randrange(6), (*spot[:2], (40 * i * TWENTY + 1, TWENTY), spot[3]))
        self.assertEqual((len(one), sum([many for _, _, many in one.lot_of_it()])), (60, 60))
        self.assertEqual(one.entries(), tuple([(*piece[:2], piece[2:]) for piece in one.spread_of_it()]))


if __name__ == "__main__":
    unittest.main()
