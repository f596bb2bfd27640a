"""Point 92: lines of events, texts of logs, and reports of desks."""

import random
import unittest

from onesheetmore.deskpapers import report
from onesheetmore.deskreadings import read_event, read_log
from onesheetmore.desks import Desk
from onesheetmore.desktexts import event_line, log_text
from onesheetmore.errors import InvalidText
from desksamples import LOG, desk_cases, is_event, is_log
from samples import ANY, ROUND, SIX, STOCK, THIRTY, THREE, TWO, changed, check_calls, check_refusals, refusal_of


def logs(many, seed):
    """So many logs; () is among them."""
    made = [(), LOG, LOG[:1], (("job", ()),), (("job", ((0, 0, THIRTY), (0, 10 ** 59, 1), (7, 3, 2))), ("drop", *[THIRTY] * 3))]
    for _, _, events in desk_cases(many, seed):
        made.append(tuple([event for event in events if is_event(event)]))
    return made


def defined_line(event):
    """The words of point 92."""
    if event[0] == "job":
        return "job" + "".join([f" {a},{b}*{many}" for a, b, many in event[1]])
    return f"{event[0]} {event[1]}x{event[2]}*{event[3]}"


class DeskTextsTest(unittest.TestCase):
    def test_written_and_read(self):
        for log in logs(80, 96):
            self.assertEqual(log_text(log), "\n".join([defined_line(event) for event in log]))
            self.assertEqual(read_log(log_text(log)), log)
            for event in log:
                self.assertEqual(event_line(event), defined_line(event))
                self.assertEqual(read_event(event_line(event)), event)
        self.assertEqual([log_text(()), read_log(""), event_line(("job", ()))], ["", (), "job"])

    def test_refusals(self):
        check_refusals(self, event_line, {"event": LOG[0]}, {"event": is_event})
        check_refusals(self, event_line, {"event": LOG[1]}, {"event": is_event})
        check_refusals(self, log_text, {"log": LOG}, {"log": is_log})
        check_calls(self, event_line, {"event": LOG[0]})
        check_calls(self, log_text, {"log": LOG * 10})
        check_calls(self, read_event, {"text": "drop 1x2*3"})
        check_calls(self, read_log, {"text": "job\nbuy 1x2*3"})


class DeskReadingsTest(unittest.TestCase):
    def assert_bad(self, text, line, field):
        """What read_log says of the text, and of a text of one line read_event, too."""
        for read in (read_log, read_event) if "\n" not in text and text != "" else (read_log,):
            with self.assertRaises(InvalidText) as caught:
                read(text)
            self.assertEqual((caught.exception.line, caught.exception.field), (line, field), (read, text))

    def test_example(self):
        self.assertEqual(read_log("buy 3x3*2\njob 0,1*2 1,0*2\njob"), (("buy", 3, 3, 2), ("job", ROUND), ("job", ())))

    def test_bad_words(self):
        for word in ("", "Job", "jobs", "sell", "0,0*1", "3x3*2", "-", "job,", "buy,"):
            self.assert_bad(word if word else " job", 0, 0)
            self.assert_bad(f"job\nbuy 1x1*1\n{word} 0,0*1\n?", 2, 0)
        numbers = ["", "0,0", "0*1", "0,0*0", "0,0*01", "00,0*1", "0,00*1", "-1,0*1", "0,-1*1", "0,0*-1", "0,0,0*1", "0,0*1*1",
                   "a,0*1", "0,0*a", ",0*1", "0,*1", "0,0*", "+1,0*1", "1_0,0*1", "0x0*1", "0;0*1", "1/2,0*1", "0, 0*1"]
        for word in numbers:
            self.assert_bad(f"job {word}", 0, 1)
            self.assert_bad(f"job 0,0*5 3,7*1 {word} ?", 0, 3)
            self.assert_bad(f"buy 1x1*1\njob\njob 0,1*2 {word}", 2, 2)
        for first, second in (("1,0*1", "0,1*1"), ("1,1*1", "1,0*1"), ("1,1*1", "1,1*2"), ("10,0*1", "9,9*1")):
            self.assert_bad(f"job {first} {second}", 0, 2)
            self.assert_bad(f"job 0,0*1 {first} {second} ?", 0, 3)
        sheets = ["", "3x3", "3*2", "0x3*2", "3x0*2", "3x3*0", "03x3*2", "3x03*2", "3x3*02", "x3*2", "3x*2", "3x3*", "3x3x3*2",
                  "3x3*2*2", "-3x3*2", "3x3*-2", "3,3*2", "ax3*2", "3X3*2", "+3x3*2", "1/2x3*2", "3x3*2x"]
        for word in sheets:
            for head in ("buy", "drop"):
                self.assert_bad(f"{head} {word}", 0, 1)
                self.assert_bad(f"{head} {word} ?", 0, 1)
                self.assert_bad(f"job\n{head} 3x3*2\n{head} {word}\n?", 2, 1)

    def test_words_too_few_and_too_many(self):
        for head in ("buy", "drop"):
            self.assert_bad(head, 0, 1)
            self.assert_bad(f"job\n{head}\njob", 1, 1)
            for further in ("", "3x3*2", "?", "x y"):
                self.assert_bad(f"{head} 3x3*2 {further}", 0, 2)
        for text, line, field in ((" ", 0, 0), ("\n", 0, 0), ("job\n", 1, 0), ("\njob", 0, 0), ("job\n\njob", 1, 0), ("job ", 0, 1),
                                  (" job", 0, 0), ("job  0,0*1", 0, 1), ("job 0,0*1 ", 0, 2), ("buy 3x3*2 ", 0, 2),
                                  ("buy  3x3*2", 0, 1), ("job\n ", 1, 0)):
            self.assert_bad(text, line, field)
        for text, field in (("", 0), ("\n", 0), ("job\njob", 0), ("job 0,0*1\njob", 1), ("buy 3x3*2\n", 1)):
            with self.assertRaises(InvalidText) as caught:
                read_event(text)
            self.assertEqual((caught.exception.line, caught.exception.field), (0, field), text)

    def test_edited_texts(self):
        rng = random.Random(97)
        read, bad = 0, 0
        for log in logs(60, 98):
            text = log_text(log)
            for _ in range(25):
                at = rng.randint(0, len(text))
                edited = text[:at] + rng.choice(["", *"012,x* \njb"]) + text[at + rng.randint(0, 1):]
                try:
                    told = read_log(edited)
                except InvalidText as error:
                    bad += 1
                    lines = [line.split(" ") if line else [] for line in edited.split("\n")]
                    self.assertTrue(0 <= error.line < len(lines) and 0 <= error.field <= len(lines[error.line]))
                    continue
                read += 1
                self.assertTrue(is_log(told))
                self.assertEqual(log_text(told), edited)
        self.assertGreater(min(read, bad), 200)

    def test_refusals(self):
        for thing in ANY:
            for read in (read_event, read_log):
                if type(thing) is not str:
                    self.assertEqual(refusal_of(lambda: read(thing)), ("text", -1))
                elif thing:
                    self.assert_bad(thing, 0, 0)


class ReportTest(unittest.TestCase):
    def test_reports(self):
        desk = Desk(TWO, STOCK)
        self.assertEqual(report(desk), "stock 3x2*1 4x4*2\ndone\ntally 0 0 0 0 0")
        desk.do_all(LOG)
        lines = report(desk).split("\n")
        stock = " ".join([f"{width}x{height}*{many}" for width, height, many in desk.stock_now()])
        self.assertEqual(lines, [f"stock {stock}", "done 0,1*2 1,0*2", "tally 2 18 16 8 0"])
        self.assertEqual(report(desk=Desk(SIX, ())), "stock\ndone\ntally 0 0 0 0 0")

    def test_of_many_desks(self):
        for lists, stock, events in desk_cases(60, 99):
            desk = Desk(lists, stock)
            for event in events:
                if desk.barred(event) is None:
                    desk.go(event)
            before = (desk.stock_now(), desk.lot_done(), desk.tally(), desk.log())
            there = "".join([f" {width}x{height}*{many}" for width, height, many in desk.stock_now()])
            done = "".join([f" {a},{b}*{many}" for a, b, many in desk.lot_done()])
            tally = " ".join([str(number) for number in desk.tally()])
            self.assertEqual(report(desk), f"stock{there}\ndone{done}\ntally {tally}")
            self.assertEqual((desk.stock_now(), desk.lot_done(), desk.tally(), desk.log()), before)

    def test_refusals(self):
        for thing in ANY + changed(THREE) + [Desk]:
            self.assertEqual(refusal_of(lambda: report(thing)), ("desk", -1))


if __name__ == "__main__":
    unittest.main()
