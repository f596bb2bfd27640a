"""Point 81: texts of diaries, written and read."""

import random
import unittest

from onesheetmore.diaryreadings import read_diary
from onesheetmore.diarytexts import diary_text
from onesheetmore.errors import InvalidText
from diarysamples import DIARY, is_diary_of, loose_diaries, random_diaries
from samples import ANY, SIX, THREE, TWO, check_calls, check_refusals
from spreadsamples import TWENTY
import samples

GOOD = "1 0 3 4 5/2 0"


class DiaryTextsTest(unittest.TestCase):
    def assert_bad(self, text, line, field, lists=TWO):
        with self.assertRaises(InvalidText) as caught:
            read_diary(lists, text)
        self.assertEqual((caught.exception.line, caught.exception.field), (line, field), text)

    def test_examples(self):
        self.assertEqual(diary_text(TWO, DIARY), "0 0 0 0 0 0\n0 0 0 0 1 1\n1 0 -")
        self.assertEqual(read_diary(TWO, "0 0 0 0 0 0\n0 0 0 0 1 1\n1 0 -"), DIARY)
        self.assert_bad("0 0 0 0 1/2 0\n2 0 -", 1, 0)

    def test_written_and_read(self):
        for lists, _, diary in list(loose_diaries(150, 90)) + random_diaries(60, 91):
            text = diary_text(lists, diary)
            lines = []
            for a, b, spot in diary:
                places = [] if spot is None else [str(top) if bottom == 1 else f"{top}/{bottom}" for top, bottom in spot[2:]]
                words = ["-"] if spot is None else [str(number) for number in spot[:2]] + places
                lines.append(" ".join([str(a), str(b)] + words))
            self.assertEqual(text, "\n".join(lines))
            self.assertEqual(read_diary(lists, text), diary)
        self.assertEqual([diary_text(TWO, ()), read_diary(TWO, "")], ["", ()])
        large = ((5, 5, (10 ** 30 - 1, 10 ** 29, (TWENTY, 10 ** 20), (10 ** 20, TWENTY))),) * 20
        self.assertEqual(read_diary(SIX, diary_text(SIX, large)), large)

    def test_words_that_can_not_stand_there(self):
        numbers = ["", "00", "01", "+1", "-1", "1.0", "x", "1/2", "1 ", "0,0", "(0)", "_1", "1_0"]
        bad = [[*numbers, "2", "-", "9" * 100], [*numbers, "2", "-", "9" * 100],
               [*numbers, "--", "None", "-1"], [*numbers, "-"],
               ["", "-", "01", "1/", "/2", "1/1", "2/4", "0/2", "1/0", "1/02", "01/2", "-1", "-1/2", "1/-2", "1/2/3", "1.5", "x"],
               ["", "-", "01", "1/", "/2", "3/1", "6/4", "0/1", "1/0", "5/010", "-1", "-0", "1/2/3", "0.5", "+1", "y"]]
        for at, things in enumerate(bad):
            for word in [thing for thing in things if " " not in thing]:
                words = GOOD.split(" ")
                words[at] = word
                self.assert_bad(" ".join(words), 0, at)
                self.assert_bad("\n".join([GOOD, "0 0 -", " ".join(words), "x"]), 2, at)
                self.assert_bad(" ".join(words[:at + 1] + ["?"] * (5 - at)), 0, at)

    def test_words_too_few_and_too_many(self):
        words = GOOD.split(" ")
        for many in range(6):
            self.assert_bad("\n".join([GOOD, " ".join(words[:many]), GOOD]), 1, many)
        for further in ("0", "-", "", "x y"):
            self.assert_bad(GOOD + " " + further, 0, 6)
            self.assert_bad("0 0 - " + further, 0, 3)
            self.assert_bad(GOOD + "\n0 0 - " + further, 1, 3)
        self.assert_bad("0 -", 0, 1)
        self.assert_bad("-", 0, 0)
        # A blank parts two words, some of them empty; an empty line has none.
        for text, line, field in ((" ", 0, 0), ("\n", 0, 0), (GOOD + "\n", 1, 0), ("\n" + GOOD, 0, 0), (" " + GOOD, 0, 0),
                                  (GOOD + " ", 0, 6), ("0 0 -\n\n0 0 -", 1, 0), ("0  0 -", 0, 1), ("0 0  -", 0, 2),
                                  ("0 0 -\n ", 1, 0), ("1 0 3 4  5/2", 0, 4)):
            self.assert_bad(text, line, field)

    def test_other_texts(self):
        # Texts with one sign taken out, put in or exchanged: what is read is written just so.
        rng = random.Random(92)
        read, bad = 0, 0
        for lists, _, diary in random_diaries(120, 93):
            text = diary_text(lists, diary)
            for _ in range(20):
                at = rng.randint(0, len(text))
                edited = text[:at] + rng.choice(["", *"0123/- \nx"]) + text[at + rng.randint(0, 1):]
                try:
                    told = read_diary(lists, edited)
                except InvalidText as error:
                    bad += 1
                    lines = [line.split(" ") if line else [] for line in edited.split("\n")]
                    self.assertTrue(0 <= error.line < len(lines) and 0 <= error.field <= len(lines[error.line]))
                    continue
                read += 1
                self.assertTrue(is_diary_of(lists)(told))
                self.assertEqual(diary_text(lists, told), edited)
        self.assertGreater(min(read, bad), 200)

    def test_refusals(self):
        given = {"lists": TWO, "diary": DIARY}
        check_refusals(self, diary_text, given, {"diary": is_diary_of(TWO)})
        check_calls(self, diary_text, given)
        given = {"lists": THREE, "text": GOOD}
        check_refusals(self, read_diary, given, {"text": samples.is_text})
        check_calls(self, read_diary, given)
        for thing in ANY:
            if type(thing) is str and thing:
                self.assert_bad(thing, 0, 1 if thing in ("0", "1") else 0)


if __name__ == "__main__":
    unittest.main()
