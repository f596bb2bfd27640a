"""Spreads that many tests share, and what tells spreads from other values, apart from the program."""

import random
from fractions import Fraction

from onesheetmore.anew import spread_of
from onesheetmore.layings import lay_by_heights
from onesheetmore.wheels import wheel_spread
from samples import ODD, SIDES, STOCK, THREE, TWO, all_kinds
from test_layings import random_lot
import samples

NINE, FOUR = ((3, 3, 1),), ((4, 2, 1),)
WHEEL = ((1, 0, 0, 0, (0, 1), (0, 1)), (0, 1, 0, 0, (2, 1), (0, 1)), (1, 0, 0, 0, (1, 1), (2, 1)),
         (0, 1, 0, 0, (0, 1), (1, 1)))
HALF = ((1, 0, 0, 0, (1, 2), (0, 1)), (1, 0, 0, 0, (1, 2), (1, 1)))
TWENTY = 10 ** 20 - 1
FLOORS = [
    (TWO, STOCK), (TWO, NINE), (TWO, FOUR), (TWO, ((5, 4, 1), (3, 3, 2))), (THREE, ((4, 7, 1), (5, 4, 2))),
    (THREE, ((6, 7, 1),)), (SIDES, ((8, 13, 1), (9, 12, 2))), (SIDES, ((7, 10, 1),)), (ODD, ((7, 3, 1), (5, 5, 1))),
    (((2, 4, 8), (1, 3)), ((9, 7, 2), (11, 4, 1))), (((1, 2), (2,)), ((3, 5, 2),)), (((3,), (1, 2)), ((7, 5, 1),))]


def is_place(thing):
    return samples.is_quotient(thing) and thing[0] >= 0


def is_piece_of(lists):
    def test(thing):
        return samples.is_tuple_of(6, *[samples.is_number] * 4, is_place, is_place)(thing) and (
            samples.is_kind(lists)(thing[:2]))
    return test


def is_piece_tuple(lists):
    return lambda thing: type(thing) is tuple and all([is_piece_of(lists)(piece) for piece in thing])


def ground_of_piece(lists, piece):
    """(left, bottom, right, top) as fractions."""
    a, b, _, _, x, y = piece
    left, bottom = Fraction(*x), Fraction(*y)
    return (left, bottom, left + lists[0][a], bottom + lists[1][b])


def do_overlap(lists, one, other):
    if one[2:4] != other[2:4]:
        return False
    left, bottom, right, top = ground_of_piece(lists, one)
    its_left, its_bottom, its_right, its_top = ground_of_piece(lists, other)
    return min(right, its_right) > max(left, its_left) and min(top, its_top) > max(bottom, its_bottom)


def is_within(lists, stock, piece):
    _, _, sort, sheet, _, _ = piece
    if sort >= len(stock) or sheet >= stock[sort][2]:
        return False
    _, _, right, top = ground_of_piece(lists, piece)
    return right <= stock[sort][0] and top <= stock[sort][1]


def are_apart(lists, pieces):
    return not any([do_overlap(lists, one, pieces[k]) for i, one in enumerate(pieces) for k in range(i)])


def is_apart_tuple(lists):
    return lambda thing: is_piece_tuple(lists)(thing) and are_apart(lists, thing)


def is_spread_of(lists, stock):
    return lambda thing: is_apart_tuple(lists)(thing) and all([is_within(lists, stock, piece) for piece in thing])


def as_quotient(fraction):
    return (fraction.numerator, fraction.denominator)


def some_place(side, size, rng):
    """A place at which a piece of this size is within the side."""
    parts = rng.choice([1, 1, 2, 3, 6])
    return as_quotient(Fraction(rng.randint(0, (side - size) * parts), parts))


def some_piece(lists, stock, rng):
    """A piece within some sheet, or None if the kind is larger than it."""
    a, b = rng.choice(all_kinds(lists))
    sort = rng.randrange(len(stock))
    width, height, many = stock[sort]
    if lists[0][a] > width or lists[1][b] > height:
        return None
    x, y = some_place(width, lists[0][a], rng), some_place(height, lists[1][b], rng)
    return (a, b, sort, rng.randrange(many), x, y)


def with_moves(lists, stock, spread, rng, tries):
    """The pieces with some of them moved about, and some added, wherever they do not overlap."""
    pieces = list(spread)
    for _ in range(tries):
        piece = some_piece(lists, stock, rng)
        if piece is None:
            continue
        others = list(pieces)
        if pieces and rng.random() < 0.5:
            moved = others.pop(rng.randrange(len(others)))
            piece = (*moved[:4], *[rng.choice([place, own]) for place, own in zip(piece[4:], moved[4:])])
        if is_within(lists, stock, piece) and are_apart(lists, [*others, piece]):
            pieces = others + [piece]
    rng.shuffle(pieces)
    return tuple(pieces)


def random_spread(lists, stock, rng):
    """Some spread: packed, round a hole, or scattered, with pieces moved about."""
    start = ()
    if rng.random() < 0.6:
        lot = random_lot(lists, stock, rng, 3)
        if sum([many for _, _, many in lot]) <= 20:
            start = spread_of(lists, stock, lay_by_heights(lists, stock, lot))
    elif stock[0][2] == 1 and rng.random() < 0.7:
        wheel = wheel_spread(lists, stock[0][:2])
        start = wheel if wheel is not None and len(wheel) <= 20 else ()
    return with_moves(lists, stock, start, rng, rng.randint(0, 12))


def random_spreads(many, seed):
    """So many (lists, stock, spread); () is among them."""
    rng = random.Random(seed)
    made = [(TWO, NINE, WHEEL), (TWO, FOUR, HALF), (TWO, STOCK, ()), (TWO, (), ())]
    for _ in range(many):
        lists, stock = rng.choice(FLOORS)
        made.append((lists, stock, random_spread(lists, stock, rng)))
    return made


def long_row(many):
    """(lists, stock, spread) of so many pieces, at places of twenty figures, on a sheet of twelve."""
    spread = tuple([(1, 0, 0, samples.THIRTY - 1, (3 * i * TWENTY + 1, TWENTY), (1, TWENTY)) for i in range(many)])
    return (TWO, ((samples.TWELVE, samples.TWELVE, samples.THIRTY),), spread)


def lot_on(spread, sort, sheet):
    """The lot of the pieces in one sheet."""
    kinds = [piece[:2] for piece in spread if piece[2:4] == (sort, sheet)]
    return tuple([(*kind, kinds.count(kind)) for kind in sorted(set(kinds))])
