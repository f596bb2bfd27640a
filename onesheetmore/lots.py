"""Reckoning with lots."""

from onesheetmore.common import lessened, merged, need
from onesheetmore.kinds import is_index, is_kind, is_lot, is_number
from onesheetmore.kindsets import holds


def lot_of(lists, pieces):
    """The lot with a piece for each entry of pieces."""
    need("pieces", isinstance(pieces, tuple) and all([is_kind(lists, entry) for entry in pieces]))
    return merged([(a, b, 1) for a, b in pieces])


def count_in(lists, lot, a, b):
    """How many pieces (a, b) the lot has."""
    need("lot", is_lot(lists, lot))
    need("a", is_index(a, len(lists[0])))
    need("b", is_index(b, len(lists[1])))
    return sum([many for wide, high, many in lot if (wide, high) == (a, b)])


def lot_plus(lists, lot, other):
    """The lot with the counts of both added."""
    need("lot", is_lot(lists, lot))
    need("other", is_lot(lists, other))
    return merged([*lot, *other])


def lot_minus(lists, lot, other):
    """The lot with the counts of other taken off."""
    need("lot", is_lot(lists, lot))
    need("other", is_lot(lists, other))
    left = lessened(lot, other)
    need("other", left is not None)
    return left


def lot_times(lists, lot, many):
    """The lot with each count times many."""
    need("lot", is_lot(lists, lot))
    need("many", is_number(many))
    return merged([(a, b, count * many) for a, b, count in lot])


def pieces_in(lists, lot):
    """How many pieces the lot has in all."""
    need("lot", is_lot(lists, lot))
    return sum([many for _, _, many in lot])


def area_of(lists, lot):
    """The area of all pieces of the lot."""
    need("lot", is_lot(lists, lot))
    return sum([lists[0][a] * lists[1][b] * many for a, b, many in lot])


def split_kind(lists, lot, kind, lesser, many):
    """The lot with all their shares lesser instead of many pieces of kind."""
    need("lot", is_lot(lists, lot))
    need("kind", is_kind(lists, kind))
    need("lesser", is_kind(lists, lesser) and lesser != kind and holds(kind, lesser))
    need("many", is_number(many) and many <= count_in(lists, lot, kind[0], kind[1]))
    across = lists[0][kind[0]] // lists[0][lesser[0]]
    up = lists[1][kind[1]] // lists[1][lesser[1]]
    return merged([*lot, (*kind, -many), (*lesser, many * across * up)])
