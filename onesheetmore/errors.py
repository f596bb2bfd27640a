"""All errors of the package, with their families."""


class SheetError(ValueError):
    """The base class of all errors."""


class PaperError(SheetError):
    """The family of what checkers raise."""


class LayError(SheetError):
    """The family of what can not be asked or laid."""


class LiveError(SheetError):
    """The family of events that can not be done."""


class TextError(SheetError):
    """The family of lines and rows that can not be read."""


class InvalidPaper(PaperError):
    """A paper that a checker does not let."""

    def __init__(self, word, at):
        self.word = word
        self.at = at


class NotUsable(LayError):
    """A parameter that is not as stated."""

    def __init__(self, word, at):
        self.word = word
        self.at = at


class Refused(LayError):
    """A lot that does not go into a stock, with a staircase that refuses."""

    def __init__(self, staircase):
        self.staircase = staircase


class NotWhole(LayError):
    """A sort whose sheets are not whole as they have to be."""

    def __init__(self, index):
        self.index = index


class Unfit(LayError):
    """A kind that has no share or no place."""

    def __init__(self, kind):
        self.kind = kind


class NoRule(LayError):
    """Three kinds of which two cross over the other one."""

    def __init__(self, kinds):
        self.kinds = kinds


class InvalidEvent(LiveError):
    """An event that a desk does not do."""

    def __init__(self, event, reason):
        self.event = event
        self.reason = reason


class NothingToUndo(LiveError):
    """More events to take back than there are."""

    def __init__(self, many):
        self.many = many


class InvalidText(TextError):
    """A word that can not stand where it stands."""

    def __init__(self, line, field):
        self.line = line
        self.field = field


class InvalidRow(TextError):
    """An event of a log that can not be done."""

    def __init__(self, row):
        self.row = row
