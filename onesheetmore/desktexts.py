"""The lines of events and the texts of logs."""

from onesheetmore.common import need
from onesheetmore.deskevents import is_event, is_log
from onesheetmore.texts import lot_words, stock_line


def event_words(event):
    """The line of what is known to be an event."""
    if event[0] == "job":
        return " ".join(["job", *lot_words(event[1])])
    sheets = stock_line((event[1:],))
    return f"{event[0]} {sheets}"


def event_line(event):
    """The line of the event."""
    need("event", is_event(event))
    return event_words(event)


def log_text(log):
    """The text of the log, one event a line."""
    need("log", is_log(log))
    return "\n".join([event_words(event) for event in log])
