"""Points 60 and 61: lines of tuples of pieces, written and read."""

import unittest

from onesheetmore.errors import InvalidText
from onesheetmore.spreadreadings import read_spread
from onesheetmore.spreadtexts import spread_line
from samples import TWO, check_calls, check_refusals
from spreadsamples import HALF, TWENTY, WHEEL, is_piece_tuple, long_row, random_spreads
import samples


class SpreadTextsTest(unittest.TestCase):
    def assert_bad(self, text, field):
        with self.assertRaises(InvalidText) as caught:
            read_spread(TWO, text)
        self.assertEqual((caught.exception.line, caught.exception.field), (0, field), text)

    def test_example(self):
        self.assertEqual(spread_line(TWO, HALF), "1,0@0.0:1/2,0 1,0@0.0:1/2,1")
        self.assertEqual(read_spread(TWO, "1,0@0.0:1/2,0 1,0@0.0:1/2,1"), HALF)

    def test_written_and_read(self):
        for lists, _, spread in random_spreads(150, 60) + [long_row(60), (TWO, (), HALF + HALF + WHEEL)]:
            line = spread_line(lists, spread)
            self.assertEqual(read_spread(lists, line), spread)
            words = []
            for a, b, sort, sheet, *places in spread:
                x, y = [str(top) if bottom == 1 else f"{top}/{bottom}" for top, bottom in places]
                words.append(f"{a},{b}@{sort}.{sheet}:{x},{y}")
            self.assertEqual(line, " ".join(words))
        self.assertEqual([spread_line(TWO, ()), read_spread(TWO, "")], ["", ()])
        self.assertEqual(read_spread(TWO, f"0,1@{10 ** 59}.{10 ** 58}:{10 ** 20}/{TWENTY},{TWENTY}"),
                         ((0, 1, 10 ** 59, 10 ** 58, (10 ** 20, TWENTY), (TWENTY, 1)),))

    def test_words_that_are_no_pieces(self):
        good = "1,0@0.0:1/2,0"
        bad = ["", "1,0", "1,0@0.0", "1,0@0.0:", "1,0@0.0:1/2", "1,0@0.0:1/2,", "1,0@0.0:,0", "1,0@0.0:1/2,0,0",
               "1,0@0:1/2,0", "1,0@0.0.0:1/2,0", "1,0@.0:1/2,0", "1,0@0.:1/2,0", "1@0.0:1/2,0", ",0@0.0:1/2,0",
               "1,@0.0:1/2,0", "1,0,0@0.0:1/2,0", "1,0@0.0@0:1/2,0", "1,0@0.0:1/2:0", "01,0@0.0:1/2,0", "1,00@0.0:1/2,0",
               "1,0@00.0:1/2,0", "1,0@0.01:1/2,0", "1,0@0.0:01/2,0", "1,0@0.0:1/02,0", "1,0@0.0:1/2,00", "1,0@0.0:2/4,0",
               "1,0@0.0:3/1,0", "1,0@0.0:0/1,0", "1,0@0.0:0/2,0", "1,0@0.0:1/0,0", "1,0@0.0:1/,0", "1,0@0.0:/2,0",
               "1,0@0.0:1/2/3,0", "1,0@0.0:-1/2,0", "1,0@0.0:1/-2,0", "1,0@0.0:+1/2,0", "1,0@0.0:1/2,-1", "1,0@-1.0:1/2,0",
               "1,0@0.0:1.5,0", "2,0@0.0:1/2,0", "1,2@0.0:1/2,0", "-1,0@0.0:1/2,0", "a,0@0.0:1/2,0", "1,0@0.0:x,0",
               "1,0@0.0:1/2,4/2", "1,0@0.0:1/2,0/3", "1;0@0.0:1/2,0", "1,0@0,0:1/2,0", "1,0.0@0:1/2,0", "/", "@.:,", "-",
               "1_0,0@0.0:1/2,0", "1,0@0.0:(1,2),0", "9" * 3900]
        for word in bad:
            self.assert_bad(word + " " + good if word == "" else word, 0)
            self.assert_bad(good + " " + word, 1)
            self.assert_bad(good + " " + good + " " + word + " " + word, 2)
        for text, field in ((" ", 0), (good + " ", 1), (" " + good, 0), (good + "  " + good, 1)):
            self.assert_bad(text, field)

    def test_refusals(self):
        given = {"lists": TWO, "spread": HALF}
        check_refusals(self, spread_line, given, {"spread": is_piece_tuple(TWO)})
        check_calls(self, spread_line, {"lists": TWO, "spread": HALF + HALF})
        given = {"lists": TWO, "text": "1,0@0.0:1/2,0"}
        check_refusals(self, read_spread, given, {"text": samples.is_text})
        check_calls(self, read_spread, given)


if __name__ == "__main__":
    unittest.main()
