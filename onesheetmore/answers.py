"""Whether a lot can be spread on a stock, and what tells it."""

from onesheetmore.common import need
from onesheetmore.kinds import is_lot
from onesheetmore.linerooms import line_refusal
from onesheetmore.listforms import used_lists
from onesheetmore.stocks import settled_stock
from onesheetmore.twosizes import two_goes
from onesheetmore.verdicts import verdict


def answer_of_alike(lists, sheet, many, lot):
    """The answer for so many such sheets, where neither shares nor a staircase give one; None if nothing does."""
    used, own_lot = used_lists(lists, lot)
    if many == 1 and len(used[0]) == 2 and len(used[1]) == 2:
        return ("yes" if two_goes(used, sheet, own_lot) else "no", "wheel")
    if line_refusal(lists, sheet, lot, many) is not None:
        return ("no", "lines")
    return None


def answer(lists, stock, lot):
    """("yes", "no" or "open", what tells it)."""
    need("lot", is_lot(lists, lot))
    word = verdict(lists, stock, lot)
    if word != "open":
        return (word, "shares" if word == "yes" else "staircase")
    sorts = settled_stock(stock)
    if len(sorts) != 1:
        return ("open", "none")
    width, height, many = sorts[0]
    found = answer_of_alike(lists, (width, height), many, lot)
    return ("open", "none") if found is None else found
