"""Layings that many tests share, and what tells layings from other values, apart from the program."""

import random
from itertools import product

from samples import ODD, SIDES, STOCK, THREE, TWO, all_kinds
from test_boxes import cells_in, is_box_of, shares_in
import samples

LAID = ((1, 0, 0, (0, 1), (0, 1), (0, 2)), (0, 1, 1, (0, 2), (1, 2), (0, 1)))
GROUNDS = [
    (TWO, STOCK), (THREE, ((5, 7, 2), (4, 4, 1))), (SIDES, ((7, 10, 2), (3, 6, 1))), (ODD, ((5, 4, 1), (3, 3, 3))),
    (((1, 2, 4), (1,)), ((9, 2, 3),)), (TWO, ((1, 1, 1), (2, 3, 4), (3, 3, 1))), (((2,), (1, 3)), ((1, 5, 2), (5, 7, 2)))]


def is_laying_of(lists, stock):
    """What tells of a thing whether it is a laying of the small stock: by cells of ground."""
    def test(thing):
        if type(thing) is not tuple or not all([is_box_of(lists, stock)(box) for box in thing]):
            return False
        cells = [cell for box in thing for cell in cells_in(lists, box)]
        return len(cells) == len(set(cells))
    return test


def box_at(lists, stock, rng):
    """Some box of the stock, or None where the kind has no share in the sort."""
    a, b = rng.choice(all_kinds(lists))
    sort = rng.randrange(len(stock))
    width, height, many = stock[sort]
    spans = []
    for limit in (many, width // lists[0][a], height // lists[1][b]):
        if limit == 0:
            return None
        start = rng.randrange(limit)
        spans.append((start, rng.randint(1, limit - start)))
    return (a, b, sort, *spans)


def random_laying(lists, stock, rng, tries=12):
    boxes, cells = [], set()
    for _ in range(rng.randint(0, tries)):
        box = box_at(lists, stock, rng)
        if box is not None and not cells & cells_in(lists, box):
            cells |= cells_in(lists, box)
            boxes.append(box)
    return tuple(boxes)


def random_layings(many, seed):
    """So many (lists, stock, laying); () is among them."""
    rng = random.Random(seed)
    made = [(TWO, STOCK, LAID), (TWO, STOCK, ()), (TWO, (), ())]
    for _ in range(many):
        lists, stock = rng.choice(GROUNDS)
        made.append((lists, stock, random_laying(lists, stock, rng)))
    return made


def pieces_of(laying):
    """The set of all (a, b, sort, sheet, column, row) of the laying's pieces."""
    return {(*box[:2], *share) for box in laying for share in shares_in(box)}


def lot_of_pieces(pieces):
    """The lot of tuples that begin with a kind."""
    kinds = [piece[:2] for piece in pieces]
    return tuple([(*kind, kinds.count(kind)) for kind in sorted(set(kinds))])


def smallest_cells(lists, stock):
    """The units of ground of all smallest shares of the stock."""
    return {(sort, sheet, x, y) for sort, (width, height, many) in enumerate(stock)
            for sheet, x, y in product(range(many), range(width - width % lists[0][0]),
                                       range(height - height % lists[1][0]))}


def striped(many):
    """(lists, stock, laying) of so many boxes that do not meet, on sheets and at counts of many figures."""
    stock = ((samples.TWELVE, samples.TWELVE, samples.THIRTY),)
    boxes = [(0, 1, 0, (7, samples.THIRTY - 10), (3 * i, 2), (5, 10 ** 11)) for i in range(many)]
    return (TWO, stock, tuple(boxes))
