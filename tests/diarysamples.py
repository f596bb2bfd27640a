"""Diaries that tests of stage 21 share, and what tells them from other values, apart from the program."""

import random

from samples import ODD, SIDES, TWO, all_kinds
from spreadsamples import FLOORS, do_overlap, is_piece_of, is_within, random_spread, some_piece

DIARY = ((0, 0, (0, 0, (0, 1), (0, 1))), (0, 0, (0, 0, (1, 1), (1, 1))), (1, 0, None))
WHOLE_FLOORS = [(TWO, ((2, 2, 1),)), (TWO, ((4, 3, 1), (2, 5, 2))), (SIDES, ((8, 10, 1),)), (ODD, ((3, 5, 2),)), (TWO, ())]


def is_entry_of(lists):
    def test(thing):
        if type(thing) is not tuple or len(thing) != 3:
            return False
        if thing[2] is None:
            return is_piece_of(lists)((*thing[:2], 0, 0, (0, 1), (0, 1)))
        return type(thing[2]) is tuple and is_piece_of(lists)((*thing[:2], *thing[2]))
    return test


def is_diary_of(lists):
    return lambda thing: type(thing) is tuple and all([is_entry_of(lists)(entry) for entry in thing])


def pieces_laid(diary):
    """(number of the entry, piece) of the pieces laid."""
    return [(i, (a, b, *spot)) for i, (a, b, spot) in enumerate(diary) if spot is not None]


def first_fault(lists, stock, diary):
    """("inside", i) or ("overlap", (i, k)) of the diary's first fault on this stock, or None."""
    laid = pieces_laid(diary)
    for i, piece in laid:
        if not is_within(lists, stock, piece):
            return ("inside", i)
    for at, (i, piece) in enumerate(laid):
        for k, other in laid[:at]:
            if do_overlap(lists, piece, other):
                return ("overlap", (i, k))
    return None


def is_let_diary(lists, stock):
    return lambda thing: is_diary_of(lists)(thing) and first_fault(lists, stock, thing) is None


def with_refused(lists, pieces, rng, part):
    """The pieces as entries laid, with refused ones between them."""
    entries = []
    for piece in [*pieces, None]:
        while rng.random() < part:
            entries.append((*rng.choice(all_kinds(lists)), None))
        if piece is not None:
            entries.append((*piece[:2], piece[2:]))
    return tuple(entries)


def random_diaries(many, seed, floors=None):
    """So many (lists, stock, diary) of pieces that lie within the stock and do not overlap; () is among them."""
    rng = random.Random(seed)
    made = [(TWO, ((2, 2, 1),), DIARY), (TWO, ((2, 2, 1),), ()), (TWO, (), ())]
    while len(made) < many:
        lists, stock = rng.choice(floors or FLOORS)
        spread = random_spread(lists, stock, rng) if stock else ()
        made.append((lists, stock, with_refused(lists, spread, rng, rng.choice([0, 0.2, 0.5]))))
    return made


def loose_diaries(many, seed):
    """So many (lists, stock, diary) whose pieces may overlap or stand outside."""
    rng = random.Random(seed)
    for _ in range(many):
        lists, stock = rng.choice(FLOORS)
        pieces = [some_piece(lists, stock, rng) for _ in range(rng.randint(0, 5))]
        pieces = [piece for piece in pieces if piece is not None]
        if pieces and rng.random() < 0.3:
            a, b, sort, sheet, x, y = pieces.pop()
            pieces.insert(rng.randint(0, len(pieces)), rng.choice([
                (a, b, sort + 1, sheet, x, y), (a, b, sort, sheet + 2, x, y), (a, b, sort, sheet, (x[0] + 9 * x[1], x[1]), y),
                (a, b, sort, sheet, x, (y[0] + 13 * y[1], y[1]))]))
        yield lists, stock, with_refused(lists, pieces, rng, 0.3)
