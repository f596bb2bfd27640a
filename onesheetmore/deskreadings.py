"""Reading the lines of events and the texts of logs."""

from onesheetmore.common import need
from onesheetmore.deskevents import is_some_lot
from onesheetmore.errors import InvalidText
from onesheetmore.kinds import is_sort
from onesheetmore.textreadings import lines_of, triple_in, words_of


def read_job(line, words):
    """The job of this line of these words."""
    lot = []
    for i, word in enumerate(words[1:]):
        entry = triple_in(word, ",")
        # The entry ahead of it alone tells whether the new one fits.
        if not is_some_lot((*lot[-1:], entry)):
            raise InvalidText(line, i + 1)
        lot.append(entry)
    return ("job", tuple(lot))


def read_line(line, words):
    """The event of this line of these words."""
    if len(words) == 0 or words[0] not in ("job", "buy", "drop"):
        raise InvalidText(line, 0)
    if words[0] == "job":
        return read_job(line, words)
    sheets = triple_in(words[1], "x") if len(words) > 1 else None
    if not is_sort(sheets):
        raise InvalidText(line, 1)
    if len(words) > 2:
        raise InvalidText(line, 2)
    return (words[0], *sheets)


def read_event(text):
    """The event with this line."""
    need("text", isinstance(text, str))
    return read_line(0, words_of(text))


def read_log(text):
    """The log with this text."""
    need("text", isinstance(text, str))
    return tuple([read_line(i, words_of(line)) for i, line in enumerate(lines_of(text))])
