"""The report of a desk."""

from onesheetmore.common import need
from onesheetmore.desks import Desk
from onesheetmore.texts import lot_words, stock_line


def headed(word, line):
    """The word, and the line behind it, unless it is empty."""
    return word if line == "" else f"{word} {line}"


def report(desk):
    """Three lines: the stock, the lot done, the tally."""
    need("desk", isinstance(desk, Desk))
    done = " ".join(lot_words(desk.lot_done()))
    tally = " ".join([str(number) for number in desk.tally()])
    return "\n".join([headed("stock", stock_line(desk.stock_now())), headed("done", done), headed("tally", tally)])
