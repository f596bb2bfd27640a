"""Desks that do a log once more."""

from onesheetmore.common import need
from onesheetmore.deskevents import is_log
from onesheetmore.desks import Desk
from onesheetmore.errors import InvalidRow, SheetError


def replayed(lists, stock, log):
    """A new Desk that has done the events of the log."""
    need("log", is_log(log))
    desk = Desk(lists, stock)
    for n, event in enumerate(log):
        try:
            desk.go(event)
        except SheetError:
            raise InvalidRow(n) from None
    return desk
