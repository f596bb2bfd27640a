"""Lots and sheets that the tests of stages 16 to 18 share."""

import random

from samples import ODD, ONE_SIZE, ROUND, SIDES, SIX, THIRTY, THREE, TWELVE, TWO, all_kinds

DEAR = ((0, 1, 1), (1, 0, 3))
PAIR = ((0, 1, 1), (1, 0, 1))
LISTS = [TWO, THREE, ODD, SIDES, ONE_SIZE, ((1, 2, 4), (1, 3)), ((1, 5), (2, 4, 8)), ((2, 6), (1, 2, 6)),
         ((1, 2, 4, 8), (3, 6, 12, 24)), SIX]
LARGE = (((3, 6, 18, 36), (2, 10, 20, 100)), ((0, 3, THIRTY), (1, 2, 10 ** 29 + 7), (2, 0, THIRTY), (3, 3, 1)),
         (TWELVE // 36 * 36 + 2, TWELVE))


def block_of(lists):
    return (lists[0][-1], lists[1][-1])


def random_lot(lists, rng):
    most = rng.choice([1, 3, 9, 40, 10 ** 6])
    return tuple([(*kind, rng.randint(1, most)) for kind in all_kinds(lists) if rng.random() < 0.6])


def roomy_sheets(lists, rng):
    """Sheets that hold a block: any, and of blocks with perhaps some rest."""
    width, height = block_of(lists)
    yield (width + rng.randint(0, 2 * width), height + rng.randint(0, 2 * height))
    yield (rng.randint(1, 3) * width + rng.randrange(lists[0][0]), rng.randint(1, 3) * height + rng.randrange(lists[1][0]))
    yield (rng.randint(1, 3) * width, height + rng.randint(0, 2 * height))
    yield (width + rng.randint(0, 2 * width), rng.randint(1, 3) * height)


def counted_cases(many, seed):
    """So many (lists, lot, sheet), the sheet roomy; empty lots are among them."""
    rng = random.Random(seed)
    made = [(TWO, ROUND, (3, 2)), (TWO, ROUND, (3, 3)), (TWO, (), (2, 2)), (TWO, DEAR, (4, 2)), LARGE]
    while len(made) < many:
        lists = rng.choice(LISTS)
        lot = random_lot(lists, rng)
        made.extend([(lists, lot, sheet) for sheet in roomy_sheets(lists, rng)])
    return made


def is_sheet_roomy(lists):
    def test(thing):
        if type(thing) is not tuple or len(thing) != 2 or not all([type(side) is int for side in thing]):
            return False
        return thing[0] >= lists[0][-1] and thing[1] >= lists[1][-1]
    return test


def is_sheet_of_blocks(lists):
    def test(thing):
        if not is_sheet_roomy(lists)(thing):
            return False
        useful = [side - side % sizes[0] for side, sizes in zip(thing, lists)]
        return useful[0] % lists[0][-1] == 0 and useful[1] % lists[1][-1] == 0
    return test


def area_of(lists, lot):
    return sum([lists[0][a] * lists[1][b] * many for a, b, many in lot])


def area_sheets(lists, lot, sheet):
    useful = (sheet[0] - sheet[0] % lists[0][0]) * (sheet[1] - sheet[1] % lists[1][0])
    return -(-area_of(lists, lot) // useful)


def lot_times(lot, many):
    return tuple([(a, b, count * many) for a, b, count in lot if many > 0])


def stock_of(sheet, many):
    return ((*sheet, many),) if many > 0 else ()
