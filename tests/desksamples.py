"""Events and desks that tests of stage 24 share, and what tells events from other values, apart from the program."""

import random

from samples import ODD, ROUND, SIDES, STOCK, THREE, TWO, all_kinds
from test_layings import random_stock
import samples

LISTS = [TWO, THREE, ODD, SIDES, ((1, 2, 6), (1, 4)), ((2, 4), (3,))]
LOG = (("job", ROUND), ("buy", 3, 3, 2), ("drop", 4, 4, 1), ("job", ()))


def is_some_lot(thing):
    """True if thing is a lot of some lists."""
    if type(thing) is not tuple or not all([samples.is_tuple_of(3, samples.is_number, samples.is_number, samples.is_count)(
            entry) for entry in thing]):
        return False
    kinds = [entry[:2] for entry in thing]
    return kinds == sorted(set(kinds))


def is_event(thing):
    if type(thing) is not tuple or not thing:
        return False
    if len(thing) == 2:
        return type(thing[0]) is str and thing[0] == "job" and is_some_lot(thing[1])
    return len(thing) == 4 and type(thing[0]) is str and thing[0] in ("buy", "drop") and all(
        [samples.is_count(number) for number in thing[1:]])


def is_log(thing):
    return type(thing) is tuple and all([is_event(event) for event in thing])


def small_stock(lists, rng, whole=None):
    """A stock of sheets that are small each, at most four sorts, perhaps one side of each a block's."""
    made = random_stock(lists, rng)
    if whole is not None:
        made = [(whole * lists[0][-1], height, many) for _, height, many in made]
    return tuple([(width, height, many * rng.choice([1, 1, 3])) for width, height, many in made])


def random_event(lists, rng, stock):
    """Some event: a job, mostly small; a purchase; a drop of what is there or is not; or none of these."""
    draw = rng.random()
    if draw < 0.6:
        kinds = [kind for kind in all_kinds(lists) if rng.random() < 0.5]
        return ("job", tuple([(*kind, rng.choice([1, 1, 2, 3, 30])) for kind in kinds]))
    if draw < 0.8 or not stock:
        return ("buy", rng.randint(1, 3 * lists[0][-1]), rng.randint(1, 3 * lists[1][-1]), rng.randint(1, 2))
    if draw < 0.9:
        width, height, many = rng.choice(stock)
        return ("drop", width, height, rng.randint(1, many + 1))
    return rng.choice([("drop", 1, 10 ** 12, 1), ("job", ((9, 9, 1),)), ("job", [(0, 0, 1)]), ("buy", 0, 1, 1), None, 7,
                       ("sell", 1, 1, 1), ("drop", 1, 1, True), ["job", ()]])


def desk_cases(many, seed):
    """So many (lists, stock, list of random events)."""
    rng = random.Random(seed)
    made = [(TWO, STOCK, list(LOG))]
    while len(made) < many:
        lists = rng.choice(LISTS)
        stock = small_stock(lists, rng)
        made.append((lists, stock, [random_event(lists, rng, stock) for _ in range(rng.randint(0, 12))]))
    return made
