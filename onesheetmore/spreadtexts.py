"""The lines of tuples of pieces."""

from onesheetmore.common import need
from onesheetmore.spreadkinds import is_spread


def quotient_word(one):
    """How a line writes the quotient."""
    top, bottom = one
    return f"{top}" if bottom == 1 else f"{top}/{bottom}"


def piece_word(piece):
    """How a line writes the piece."""
    a, b, sort, sheet, x, y = piece
    return f"{a},{b}@{sort}.{sheet}:{quotient_word(x)},{quotient_word(y)}"


def spread_line(lists, spread):
    """The line of the pieces."""
    need("spread", is_spread(lists, spread))
    return " ".join([piece_word(piece) for piece in spread])
