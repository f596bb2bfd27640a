"""The texts of diaries."""

from onesheetmore.diaries import need_diary
from onesheetmore.spreadtexts import quotient_word


def entry_line(entry):
    """The line of the entry."""
    a, b, spot = entry
    if spot is None:
        return f"{a} {b} -"
    sort, sheet, x, y = spot
    return f"{a} {b} {sort} {sheet} {quotient_word(x)} {quotient_word(y)}"


def diary_text(lists, diary):
    """The text of the diary, one entry a line."""
    need_diary(lists, diary)
    return "\n".join([entry_line(entry) for entry in diary])
