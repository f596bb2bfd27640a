"""The examples of the document itself, where it is at hand, and those of the readme: each one as it stands there."""

import builtins
import doctest
import re
import unittest
from pathlib import Path

from onesheetmore.errors import SheetError

README = Path(__file__).resolve().parent.parent / "README.md"
DOCUMENT = Path(__file__).resolve().parent.parent.parent / "shared" / "DOC.md"
MARK = "    >>> "


def shown(error):
    """How the document writes an error."""
    fields = ", ".join([f"{name}={value!r}" for name, value in vars(error).items()])
    return f"raises {type(error).__name__}({fields})"


def examples(text):
    """(line number, what is run, what the document says of it or None)."""
    lines = text.split("\n")
    for at, line in enumerate(lines):
        if line.startswith(MARK):
            follows = lines[at + 1] if at + 1 < len(lines) else ""
            has_answer = follows.startswith("    ") and not follows.startswith(MARK)
            yield at + 1, line[len(MARK):], follows.strip() if has_answer else None


def told_by(code, names):
    """What the example shows; None for a statement."""
    try:
        compiled = compile(code, "example", "eval")
    except SyntaxError:
        exec(code, names)
        return None
    try:
        return repr(eval(compiled, names))
    except SheetError as error:
        return shown(error)


@unittest.skipUnless(DOCUMENT.is_file(), "the document is not at hand")
class DocumentTest(unittest.TestCase):
    def test_examples(self):
        names, seen = {}, 0
        for line, code, answer in examples(DOCUMENT.read_text(encoding="utf-8")):
            told = told_by(code, names)
            if answer is not None:
                seen += 1
                self.assertEqual(told, answer, (line, code))
        self.assertGreater(seen, 90)

    def test_no_example_is_missed(self):
        text = DOCUMENT.read_text(encoding="utf-8")
        self.assertEqual(len(list(examples(text))), len(re.findall("^ *>>> ", text, re.MULTILINE)))


class ReadmeTest(unittest.TestCase):
    def tearDown(self):
        # Showing values leaves the last one behind, as if it were a builtin.
        vars(builtins).pop("_", None)

    def test_examples(self):
        told = doctest.testfile(str(README), module_relative=False)
        self.assertEqual(told.failed, 0)
        self.assertGreater(told.attempted, 20)


if __name__ == "__main__":
    unittest.main()
