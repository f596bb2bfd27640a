"""What events do to a desk: to its stock, the lot done and its tally."""

from onesheetmore.common import lessened
from onesheetmore.deskevents import is_event
from onesheetmore.errors import InvalidEvent, Refused
from onesheetmore.further import leading_sheets
from onesheetmore.kinds import is_lot
from onesheetmore.layings import lay_by_heights
from onesheetmore.lots import area_of, lot_plus
from onesheetmore.offcuts import offcuts_of, scraps_of
from onesheetmore.rests import used_sheets
from onesheetmore.stocks import first_sheets_of, settled_stock, stock_minus, stock_plus
from onesheetmore.verdicts import goes_in, refusal


def first_state(stock):
    """(stock, lot done, tally) of a desk that has done no event."""
    return (settled_stock(stock), (), (0, 0, 0, 0, 0))


def event_fault(lists, stock, event):
    """Why the event can not be done: "form", "lot", "rooms" or "sheets"; None if it can."""
    if not is_event(event):
        return "form"
    if event[0] == "job":
        if not is_lot(lists, event[1]):
            return "lot"
        return None if goes_in(lists, stock, event[1]) else "rooms"
    if event[0] == "drop" and lessened(stock, (event[1:],)) is None:
        return "sheets"
    return None


def slip_of(lists, stock, lot):
    """(used, laying, offcuts) of a job whose lot goes into the stock."""
    used = first_sheets_of(stock, leading_sheets(lists, stock, lot))
    laying = lay_by_heights(lists, used, lot)
    return (used, laying, offcuts_of(lists, used, laying))


def sheets_sawn(lists, used, laying):
    """The sheets in which a piece lies, as a stock."""
    counts = used_sheets(lists, used, laying)
    return tuple([(width, height, many) for (width, height, _), many in zip(used, counts) if many > 0])


def job_done(lists, state, lot):
    """The slip of the job, and the state behind it."""
    stock, done, (jobs, bought, dropped, area, scraps) = state
    used, laying, offcuts = slip_of(lists, stock, lot)
    left = stock_minus(stock, sheets_sawn(lists, used, laying))
    tally = (jobs + 1, bought, dropped, area + area_of(lists, lot), scraps + scraps_of(lists, used, laying))
    return ((used, laying, offcuts), (stock_plus(left, offcuts), lot_plus(lists, done, lot), tally))


def event_done(lists, state, event):
    """What doing the event returns, and the state behind it."""
    stock, done, (jobs, bought, dropped, area, scraps) = state
    word = event_fault(lists, stock, event)
    if word == "rooms":
        raise Refused(refusal(lists, stock, event[1]))
    if word is not None:
        raise InvalidEvent(event, word)
    if event[0] == "job":
        return job_done(lists, state, event[1])
    width, height, many = event[1:]
    sheets = (event[1:],)
    if event[0] == "buy":
        tally = (jobs, bought + width * height * many, dropped, area, scraps)
        return (None, (stock_plus(stock, sheets), done, tally))
    tally = (jobs, bought, dropped + width * height * many, area, scraps)
    return (None, (stock_minus(stock, sheets), done, tally))
