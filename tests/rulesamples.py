"""Sets of kinds that tests of stages 19 and 20 share, and what tells them apart, apart from the program."""

import random
from itertools import combinations

from samples import ODD, ONE_SIZE, SIDES, THREE, TWO, all_kinds

KINDS = ((0, 2), (1, 0), (1, 1), (2, 2))
FOUR = ((1, 2, 4, 8), (1, 3, 6, 12))
ROWS = [TWO, THREE, ODD, SIDES, ONE_SIZE, ((1, 2, 6), (1, 4)), ((1, 2), (2, 4, 8)), FOUR]


def is_over(x, y, z):
    """The words of point 4: y and z cross over x."""
    return y[0] > x[0] and y[0] > z[0] and z[1] > x[1] and z[1] > y[1]


def overs_in(kinds):
    """All triples (x, y, z) of the kinds such that y and z cross over x, ascending."""
    return sorted([(x, y, z) for x in kinds for y in kinds for z in kinds if is_over(x, y, z)])


def crossing_in(kinds):
    """All pairs (y, z) of the kinds, y the wider and z the taller one of two that cross."""
    return [(y, z) for y in kinds for z in kinds if y[0] > z[0] and y[1] < z[1]]


def all_sets(lists):
    """All sets of kinds of the lists."""
    kinds = all_kinds(lists)
    return [chosen for many in range(len(kinds) + 1) for chosen in combinations(kinds, many)]


def random_sets(many, seed):
    """So many (lists, kinds); sets of few kinds have a rule more often."""
    rng = random.Random(seed)
    for _ in range(many):
        lists = rng.choice(ROWS)
        part = rng.choice([0.15, 0.3, 0.5, 0.8])
        yield lists, tuple([kind for kind in all_kinds(lists) if rng.random() < part])


def rule_sets(many, seed, forked=None):
    """So many (lists, kinds) of sets that have a rule; all of them, or those with or without a fork."""
    found, at = [], seed * 1000
    while len(found) < many:
        at += 1
        for lists, kinds in random_sets(20, at):
            if kinds and not overs_in(kinds) and forked in (None, bool(crossing_in(kinds))):
                found.append((lists, kinds))
    return found[:many]
