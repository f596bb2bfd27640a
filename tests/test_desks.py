"""Points 87 to 91: events, desks, and desks that do a log once more."""

import random
import unittest

from onesheetmore.deskevents import is_event, is_log
from onesheetmore.desks import Desk
from onesheetmore.errors import InvalidEvent, InvalidRow, NothingToUndo, NotUsable, Refused, SheetError
from onesheetmore.further import leading_sheets
from onesheetmore.layingchecker import lets_laying
from onesheetmore.lots import area_of, lot_plus
from onesheetmore.offcuts import offcuts_of, scraps_of
from onesheetmore.readings import refuses
from onesheetmore.replaying import replayed
from onesheetmore.rests import used_sheets
from onesheetmore.staircases import is_staircase
from onesheetmore.stocks import first_sheets_of, settled_stock, stock_minus, stock_plus
from onesheetmore.verdicts import goes_in
from onesheetmore.wholes import is_whole_stock
from desksamples import LISTS, LOG, desk_cases, random_event, small_stock
from samples import (
    ANY, ODD, ROUND, SIDES, SIX, STOCK, THIRTY, THREE, TWO, changed, check_calls, check_refusals, read_no_error, refusal_of)
from test_offcuts import stock_area
import desksamples
import samples


def shown(desk):
    """All that a desk tells."""
    return (desk.stock_now(), desk.lot_done(), desk.tally(), desk.log())


def why_not(lists, stock, event):
    """What barred has to tell of the event at this stock."""
    if not desksamples.is_event(event):
        return "form"
    if event[0] == "job":
        if not samples.is_lot(lists)(event[1]):
            return "lot"
        return None if goes_in(lists, stock, event[1]) else "rooms"
    there = sum([many for width, height, many in stock if (width, height) == event[1:3]])
    return "sheets" if event[0] == "drop" and there < event[3] else None


class EventsTest(unittest.TestCase):
    def test_events_and_logs(self):
        things = ANY + changed(LOG) + [event for own in LOG for event in changed(own)] + list(LOG) + [LOG, LOG[::-1], ()]
        things += [("job", ((10 ** 59, 10 ** 59, 10 ** 59),)), ("job", ((0, 1, 1), (0, 0, 1))), ("job", ((0, 0, 0),)),
                   ("job", ((0, 0, 1), (0, 0, 2))), ("job", [(0, 0, 1)]), ("job", 0), ("job",), ("job", (), ()), ("Job", ()),
                   ("buy", 1, 1, 1), ("buy", 10 ** 59, 1, 1), ("buy", 0, 1, 1), ("buy", 1, 0, 1), ("buy", 1, 1, 0),
                   ("buy", 1, 1, True), ("buy", (1, 1, 1)), ("buy", 1, 1), ("drop", 1, 1, 1, 1), ["drop", 1, 1, 1],
                   ("sell", 1, 1, 1), (None, 1, 1, 1), ("drop", "1", 1, 1), ("job", "")]
        found = set()
        for thing in things:
            told = (is_event(thing), is_log(thing), is_log((thing,)))
            self.assertEqual(told, (desksamples.is_event(thing), desksamples.is_log(thing), desksamples.is_event(thing)), thing)
            self.assertEqual([type(one) for one in told], [bool] * 3)
            self.assertIs(is_log([thing]), False)
            found.add(told)
        self.assertEqual(found, {(True, False, True), (False, True, False), (False, False, False)})
        check_calls(self, is_event, {"thing": LOG[0]})
        check_calls(self, is_log, {"thing": LOG * 10})


class DeskTest(unittest.TestCase):
    def test_example(self):
        desk = Desk(TWO, STOCK)
        slip = desk.job(ROUND)
        self.assertEqual([slip[0], desk.lot_done(), desk.tally()], [((3, 2, 1), (4, 4, 1)), ((0, 1, 2), (1, 0, 2)), (1, 0, 0, 8, 0)])

    def check_slip(self, lists, stock, lot, slip):
        """The slip of a job at this stock; what is there behind it, and its scraps."""
        used, laying, offcuts = slip
        self.assertEqual(type(slip), tuple)
        many = leading_sheets(lists, stock, lot)
        self.assertEqual(used, first_sheets_of(stock, many))
        self.assertTrue(many == 0 or not goes_in(lists, first_sheets_of(stock, many - 1), lot))
        self.assertEqual(lets_laying(lists, used, laying), lot)
        self.assertEqual(offcuts, offcuts_of(lists, used, laying))
        counts = used_sheets(lists, used, laying)
        gone = tuple([(*sheet[:2], count) for sheet, count in zip(used, counts) if count])
        return stock_plus(stock_minus(stock, gone), offcuts), scraps_of(lists, used, laying)

    def check_event(self, desk, lists, event):
        """One event against the words of the points; the word of barred."""
        stock, done, (jobs, bought, dropped, area, scraps), log = before = shown(desk)
        word = why_not(lists, stock, event)
        self.assertEqual(desk.barred(event), word)
        tried = read_no_error(lambda: desk.tried(event))
        self.assertEqual(shown(desk), before)
        told = read_no_error(lambda: desk.go(event))
        if word is not None:
            self.assertEqual(shown(desk), before)
            for error in (tried, told):
                if word == "rooms":
                    self.assertIs(type(error), Refused)
                    self.assertTrue(is_staircase(lists, error.staircase) and error.staircase[0] == "heights")
                    self.assertTrue(refuses(lists, stock, event[1], error.staircase))
                else:
                    self.assertEqual((type(error), repr(error.event), error.reason), (InvalidEvent, repr(event), word))
            return word
        self.assertEqual(tried, (told, desk.stock_now()))
        if event[0] == "job":
            after, own_scraps = self.check_slip(lists, stock, event[1], told)
            tally = (jobs + 1, bought, dropped, area + area_of(lists, event[1]), scraps + own_scraps)
            done = lot_plus(lists, done, event[1])
        else:
            self.assertIsNone(told)
            moved = event[1] * event[2] * event[3]
            after = stock_plus(stock, (event[1:],)) if event[0] == "buy" else stock_minus(stock, (event[1:],))
            tally = (jobs, bought + moved, dropped, area, scraps) if event[0] == "buy" else (
                jobs, bought, dropped + moved, area, scraps)
        self.assertEqual(shown(desk), (after, done, tally, log + (event,)))
        return word

    def test_events(self):
        found = set()
        for lists, stock, events in desk_cases(150, 89):
            desk = Desk(lists, stock)
            self.assertEqual(shown(desk), (settled_stock(stock), (), (0, 0, 0, 0, 0), ()))
            for event in events:
                found.add(self.check_event(desk, lists, event))
            # Consequences: all areas are accounted for.
            _, bought, dropped, area, scraps = desk.tally()
            self.assertEqual(stock_area(stock) + bought, stock_area(desk.stock_now()) + dropped + area + scraps)
            self.assertEqual(area, area_of(lists, desk.lot_done()))
        self.assertEqual(found, {None, "form", "lot", "rooms", "sheets"})

    def test_as_go(self):
        for lists, stock, events in desk_cases(60, 90):
            one, other = Desk(lists, stock), Desk(lists, stock)
            for event in events:
                if not desksamples.is_event(event) or (event[0] == "job" and not samples.is_lot(lists)(event[1])):
                    continue
                method = {"job": one.job, "buy": one.buy, "drop": one.drop}[event[0]]
                told, expected = read_no_error(lambda: method(*event[1:])), read_no_error(lambda: other.go(event))
                if isinstance(expected, SheetError):
                    self.assertEqual((type(told), vars(told)), (type(expected), vars(expected)))
                else:
                    self.assertEqual(told, expected)
                self.assertEqual(shown(one), shown(other))

    def test_whole_one_way(self):
        rng = random.Random(91)
        for _ in range(40):
            lists = rng.choice(LISTS)
            desk = Desk(lists, small_stock(lists, rng, rng.randint(1, 2)))
            for _ in range(8):
                event = random_event(lists, rng, desk.stock_now())
                if desk.barred(event) is None and (event[0] != "buy" or is_whole_stock(lists, (event[1:],))):
                    desk.go(event)
                self.assertTrue(is_whole_stock(lists, desk.stock_now()))

    def test_slips_hang_on_their_stock_alone(self):
        one, other = Desk(TWO, STOCK), Desk(TWO, ((4, 4, 1), (3, 2, 1), (9, 9, 1)))
        other.go(("buy", 4, 4, 1))
        other.go(("drop", 9, 9, 1))
        self.assertEqual(one.stock_now(), other.stock_now())
        self.assertEqual(one.job(ROUND), other.job(ROUND))

    def test_undo(self):
        rng = random.Random(92)
        for lists, stock, events in desk_cases(60, 93):
            desk, states = Desk(lists, stock), []
            for event in events:
                states.append(shown(desk))
                if desk.barred(event) is not None:
                    states.pop()
                    continue
                desk.go(event)
            log = desk.log()
            for many in (len(log) + 1, len(log) + 2, THIRTY):
                error = read_no_error(lambda: desk.undo(many))
                self.assertEqual((type(error), error.many, desk.log()), (NothingToUndo, many, log))
            self.assertEqual((desk.undo(0), desk.log()), ((), log))
            while log:
                many = rng.randint(1, len(log))
                self.assertEqual(desk.undo(many), log[len(log) - many:])
                log = log[:len(log) - many]
                self.assertEqual(shown(desk), states[len(log)])
            self.assertEqual(desk.undo(0), ())

    def test_do_all(self):
        found = set()
        for lists, stock, events in desk_cases(100, 94):
            for keep in (False, True, None):
                desk, steps = Desk(lists, stock), Desk(lists, stock)
                if desk.barred(("buy", 1, 1, 1)) is None:
                    desk.buy(1, 1, 1)
                    steps.buy(1, 1, 1)
                before, told, error = shown(desk), [], None
                for event in events:
                    step = read_no_error(lambda: steps.go(event))
                    if isinstance(step, SheetError):
                        error = step
                        break
                    told.append(step)
                result = read_no_error(lambda: desk.do_all(tuple(events)) if keep is None else desk.do_all(tuple(events), keep))
                if error is None:
                    self.assertEqual(result, tuple(told))
                    self.assertEqual(shown(desk), shown(steps))
                else:
                    self.assertEqual((type(result), repr(vars(result))), (type(error), repr(vars(error))))
                    self.assertEqual(shown(desk), shown(steps) if keep else before)
                found.add((error is None, keep, len(told) > 0))
        self.assertEqual(len(found), 12)
        desk = Desk(TWO, STOCK)
        self.assertEqual((desk.do_all(()), desk.do_all(events=(), keep=True), desk.log()), ((), (), ()))
        self.assertEqual(desk.do_all(events=LOG[1:3], keep=False), (None, None))

    def test_edges(self):
        desk = Desk(TWO, ())
        self.assertEqual([desk.job(()), desk.stock_now(), desk.tally(), desk.log()],
                         [((), (), ()), (), (1, 0, 0, 0, 0), (("job", ()),)])
        error = read_no_error(lambda: desk.job(((0, 0, 1),)))
        self.assertEqual((type(error), error.staircase[0]), (Refused, "heights"))
        error = read_no_error(lambda: desk.drop(1, 1, 1))
        self.assertEqual((type(error), error.event, error.reason), (InvalidEvent, ("drop", 1, 1, 1), "sheets"))
        # A job of no pieces saws nothing; sheets in which no piece lies stay.
        full = Desk(TWO, ((1, 5, 2), (2, 2, 3), (3, 3, 1), (2, 2, 1)))
        self.assertEqual(full.stock_now(), ((1, 5, 2), (2, 2, 4), (3, 3, 1)))
        self.assertEqual([full.job(()), full.stock_now()], [((), (), ()), ((1, 5, 2), (2, 2, 4), (3, 3, 1))])
        used, _, offcuts = full.job(((1, 1, 2),))
        self.assertEqual([used, offcuts, full.stock_now()], [((1, 5, 2), (2, 2, 2)), (), ((1, 5, 2), (2, 2, 2), (3, 3, 1))])
        full.drop(width=1, height=5, many=2)
        self.assertEqual(full.stock_now(), ((2, 2, 2), (3, 3, 1)))

    def test_by_name(self):
        one, other = Desk(TWO, STOCK), Desk(lists=TWO, stock=STOCK)
        given = repr((TWO, STOCK, LOG))
        self.assertEqual(one.tried(LOG[0]), other.tried(event=LOG[0]))
        self.assertEqual(one.barred(LOG[0]), other.barred(event=LOG[0]))
        self.assertEqual(one.job(ROUND), other.job(lot=ROUND))
        self.assertEqual(one.buy(3, 3, 2), other.buy(width=3, height=3, many=2))
        self.assertEqual(one.go(LOG[2]), other.go(event=LOG[2]))
        self.assertEqual(shown(one), shown(other))
        self.assertEqual(one.undo(2), other.undo(many=2))
        self.assertEqual(one.do_all(LOG[1:], True), other.do_all(keep=True, events=LOG[1:]))
        self.assertEqual(shown(one), shown(other))
        self.assertEqual(repr((TWO, STOCK, LOG)), given)

    def test_sheet_with_scraps(self):
        desk = Desk(((2, 4), (3,)), ((7, 8, 2),))
        self.assertEqual(desk.job(((1, 0, 1),))[2], ((2, 6, 1), (4, 3, 1)))
        self.assertEqual([desk.stock_now(), desk.tally()], [((2, 6, 1), (4, 3, 1), (7, 8, 1)), (1, 0, 0, 12, 20)])

    def test_large(self):
        lists = ((1, 2, 4), (1, 3))
        desk = Desk(lists, ((19, 20, THIRTY), (20, 19, THIRTY)))
        lot = ((0, 1, 10 ** 29), (1, 0, 10 ** 29), (2, 1, 10 ** 29 + 7))
        for at in range(10):
            slip = desk.go(("job", lot))
            self.assertEqual(lets_laying(lists, slip[0], slip[1]), lot)
            desk.go(("buy", 5 + at, 7, THIRTY))
            if at % 3 == 0:
                desk.go(("drop", *desk.stock_now()[0]))
            desk.go(("job", ((0, 0, 1),)))
        self.assertGreater(len(desk.stock_now()), 6)
        tally, stock = desk.tally(), desk.stock_now()
        self.assertEqual(stock_area(((19, 20, THIRTY), (20, 19, THIRTY))) + tally[1], stock_area(stock) + sum(tally[2:]))
        self.assertEqual(tally[0], 20)
        again = Desk(lists, stock)
        self.assertEqual(again.stock_now(), stock)

    def test_refusals(self):
        desk = Desk(lists=TWO, stock=STOCK)
        desk.buy(1, 1, 1)
        before = shown(desk)
        for method in (desk.buy, desk.drop):
            given = {"width": 3, "height": 2, "many": 1}
            for name in given:
                for thing in ANY + changed(given[name]):
                    if not samples.is_count(thing):
                        self.assertEqual(refusal_of(lambda: method(**{**given, name: thing})), (name, -1))
            for call, name in ((lambda: method(0, 0, 0), "width"), (lambda: method(1, None, 0), "height"),
                               (lambda: method(1, 1, True), "many")):
                self.assertEqual(refusal_of(call), (name, -1))
        for thing in ANY + changed(ROUND):
            if not samples.is_lot(TWO)(thing):
                self.assertEqual(refusal_of(lambda: desk.job(thing)), ("lot", -1))
            if not samples.is_number(thing):
                self.assertEqual(refusal_of(lambda: desk.undo(thing)), ("many", -1))
            if type(thing) is not tuple:
                self.assertEqual(refusal_of(lambda: desk.do_all(thing)), ("events", -1))
                self.assertEqual(refusal_of(lambda: desk.do_all(thing, None)), ("events", -1))
            if type(thing) is not bool:
                self.assertEqual(refusal_of(lambda: desk.do_all((("buy", 1, 1, 1),), thing)), ("keep", -1))
        for event in ANY + changed(LOG[0]) + changed(LOG[1]):
            if not desksamples.is_event(event):
                for call in (lambda: desk.go(event), lambda: desk.tried(event), lambda: desk.do_all((event,), True)):
                    error = read_no_error(call)
                    self.assertEqual((type(error), error.reason), (InvalidEvent, "form"))
                    self.assertIs(error.event, event)
                self.assertEqual(desk.barred(event), "form")
        far = ("job", ((2, 0, 1),))
        error = read_no_error(lambda: desk.go(far))
        self.assertEqual((type(error), error.event, error.reason), (InvalidEvent, far, "lot"))
        self.assertIs(error.event, far)
        self.assertEqual(shown(desk), before)


class ReplayingTest(unittest.TestCase):
    def test_logs(self):
        found = set()
        for lists, stock, events in desk_cases(100, 95):
            log = tuple([event for event in events if desksamples.is_event(event)])
            desk, failed = Desk(lists, stock), None
            for n, event in enumerate(log):
                if desk.barred(event) is not None:
                    failed = n
                    break
                desk.go(event)
            told = read_no_error(lambda: replayed(lists, stock, log))
            if failed is not None:
                self.assertEqual((type(told), told.row), (InvalidRow, failed))
            else:
                self.assertIsInstance(told, Desk)
                self.assertEqual(shown(told), shown(desk))
                self.assertEqual(shown(replayed(lists, stock, desk.log())), shown(desk))
            found.add((failed is None, len(log) > 3))
        self.assertEqual(len(found), 4)

    def test_forty_events(self):
        log = ((("job", ROUND), ("buy", 3, 3, 2), ("drop", 3, 3, 1), ("job", ())) * 10)
        desk = replayed(TWO, ((20, 20, 1),), log)
        self.assertEqual((desk.log(), desk.tally()[:4]), (log, (20, 180, 90, 80)))
        self.assertEqual(shown(replayed(TWO, STOCK, ())), shown(Desk(TWO, STOCK)))
        error = read_no_error(lambda: replayed(TWO, STOCK, log[:39] + (("drop", 9, 9, 1),)))
        self.assertEqual((type(error), error.row), (InvalidRow, 39))
        self.assertEqual(read_no_error(lambda: replayed(SIX, (), (("job", ()), ("job", ((6, 0, 1),))))).row, 1)

    def test_refusals(self):
        given = {"lists": TWO, "stock": STOCK, "log": LOG}
        check_refusals(self, replayed, given, {"log": desksamples.is_log})
        self.assertEqual(shown(replayed(**given)), shown(replayed(*given.values())))
        for lists in (THREE, ODD, SIDES):
            with self.assertRaises(NotUsable):
                replayed(lists, (), [LOG[0]])


if __name__ == "__main__":
    unittest.main()
