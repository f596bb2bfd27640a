"""A desk that saws sheets for jobs, and keeps what is left over."""

from onesheetmore.common import need
from onesheetmore.deskwork import event_done, event_fault, first_state
from onesheetmore.errors import NothingToUndo, SheetError
from onesheetmore.kinds import is_count, is_lot, is_number


def need_sheets(width, height, many):
    """Refuse the first of the three that is no number from 1 on."""
    need("width", is_count(width))
    need("height", is_count(height))
    need("many", is_count(many))


class Desk:
    """A desk with its lists and its stock."""

    def __init__(self, lists, stock):
        self.lists = lists
        self.first = first_state(stock)
        self.history = ()

    def state(self):
        """(stock, lot done, tally) as they are now."""
        return self.first if len(self.history) == 0 else self.history[-1][1]

    def job(self, lot):
        """Lay the lot on the first sheets, saw these, and return the slip (used, laying, offcuts)."""
        need("lot", is_lot(self.lists, lot))
        return self.go(("job", lot))

    def buy(self, width, height, many):
        """So many such sheets come into the stock."""
        need_sheets(width, height, many)
        return self.go(("buy", width, height, many))

    def drop(self, width, height, many):
        """So many such sheets leave the stock."""
        need_sheets(width, height, many)
        return self.go(("drop", width, height, many))

    def go(self, event):
        """Do the event, and return what job, buy or drop returns."""
        returned, state = event_done(self.lists, self.state(), event)
        self.history = (*self.history, (event, state))
        return returned

    def barred(self, event):
        """Why the event can not be done: "form", "lot", "rooms" or "sheets"; None if it can."""
        return event_fault(self.lists, self.stock_now(), event)

    def tried(self, event):
        """What doing the event would return, and the stock that would then be there."""
        returned, state = event_done(self.lists, self.state(), event)
        return (returned, state[0])

    def undo(self, many):
        """Take back the last so many events, and return them in the sequence of the log."""
        need("many", is_number(many))
        if many > len(self.history):
            raise NothingToUndo(many)
        kept = len(self.history) - many
        undone = self.log()[kept:]
        self.history = self.history[:kept]
        return undone

    def do_all(self, events, keep=False):
        """Do the events in sequence, and return what they return; all or none of them, unless keep."""
        need("events", isinstance(events, tuple))
        need("keep", isinstance(keep, bool))
        before = self.history
        returned = []
        for event in events:
            try:
                returned.append(self.go(event))
            except SheetError:
                if not keep:
                    self.history = before
                raise
        return tuple(returned)

    def stock_now(self):
        """The stock."""
        return self.state()[0]

    def lot_done(self):
        """The lot of all jobs."""
        return self.state()[1]

    def tally(self):
        """(number of jobs, area bought, area dropped, area of the lot done, scraps of all jobs)."""
        return self.state()[2]

    def log(self):
        """The events done and not taken back."""
        return tuple([event for event, _ in self.history])
