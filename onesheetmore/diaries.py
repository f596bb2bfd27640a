"""Diaries: pieces laid or refused one after the other."""

from onesheetmore.common import need
from onesheetmore.errors import NotWhole
from onesheetmore.kinds import is_kind, is_pair_of_numbers, is_tuple_of
from onesheetmore.lots import lot_of
from onesheetmore.openings import free_place
from onesheetmore.overlaps import first_overlap
from onesheetmore.spreadchecker import is_inside
from onesheetmore.spreadkinds import is_place
from onesheetmore.verdicts import goes_in
from onesheetmore.wholes import whole_ways


def is_spot(thing):
    """True if thing is what an entry has for a piece laid: a sort, a sheet and its place, else False."""
    if not is_tuple_of(thing, 4) or not is_pair_of_numbers(thing[:2]):
        return False
    return is_place(thing[2]) and is_place(thing[3])


def is_entry(lists, thing):
    """True if thing is an entry of a diary, else False."""
    if not is_tuple_of(thing, 3) or not is_kind(lists, thing[:2]):
        return False
    return thing[2] is None or is_spot(thing[2])


def is_diary(lists, thing):
    """True if thing is a diary, else False."""
    return isinstance(thing, tuple) and all([is_entry(lists, entry) for entry in thing])


def need_diary(lists, diary):
    """Refuse a parameter called diary that is none."""
    need("diary", is_diary(lists, diary))


def laid_pieces(diary):
    """The pieces laid, in sequence."""
    return tuple([(a, b, *spot) for a, b, spot in diary if spot is not None])


def laid_entries(diary):
    """The numbers of the entries whose pieces were laid."""
    return [i for i, entry in enumerate(diary) if entry[2] is not None]


def refused_entries(diary):
    """The numbers of the entries whose pieces were refused."""
    return [i for i, entry in enumerate(diary) if entry[2] is None]


def kinds_lot(lists, entries):
    """The lot of a piece of the kind of each of these entries."""
    return lot_of(lists, tuple([entry[:2] for entry in entries]))


def diary_fault(lists, stock, thing):
    """The first fault of thing as a diary of what was laid on the stock, as (word, at), or None."""
    if not isinstance(thing, tuple):
        return ("diary", -1)
    for i, entry in enumerate(thing):
        if not is_entry(lists, entry):
            return ("entry", i)
        if entry[2] is not None and not is_inside(lists, stock, (*entry[:2], *entry[2])):
            return ("inside", i)
    overlap = first_overlap(lists, laid_pieces(thing))
    if overlap is None:
        return None
    laid = laid_entries(thing)
    return ("overlap", (laid[overlap[0]], laid[overlap[1]]))


def need_let_diary(lists, stock, diary):
    """Refuse a parameter called diary that its checker does not let."""
    need("diary", diary_fault(lists, stock, diary) is None)


def diary_lot(lists, diary):
    """The lot of the pieces laid."""
    need_diary(lists, diary)
    return kinds_lot(lists, laid_pieces(diary))


def diary_spread(lists, diary):
    """The pieces laid, in sequence."""
    need_diary(lists, diary)
    return laid_pieces(diary)


def needless(lists, stock, diary):
    """The first refused entry whose piece can be spread with all pieces laid ahead of it, or None."""
    need_let_diary(lists, stock, diary)
    for sort, (width, height, _) in enumerate(stock):
        if whole_ways(lists, (width, height)) == "neither":
            raise NotWhole(sort)
    for i in refused_entries(diary):
        # On these sheets what can be spread goes in.
        if goes_in(lists, stock, kinds_lot(lists, (*laid_pieces(diary[:i]), diary[i]))):
            return i
    return None


def had_place(lists, stock, diary):
    """The refused entries whose piece had a place beside the pieces laid ahead of it where they lie."""
    need_let_diary(lists, stock, diary)
    return tuple([
        i for i in refused_entries(diary)
        if free_place(lists, stock, laid_pieces(diary[:i]), diary[i][0], diary[i][1]) is not None])
