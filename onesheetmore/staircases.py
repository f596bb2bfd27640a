"""Staircases, and the closed sets of kinds that they count."""

from onesheetmore.common import need
from onesheetmore.kinds import is_index, is_kinds, is_tuple_of
from onesheetmore.kindsets import is_closed


def is_way(thing):
    """True if thing is a way, else False."""
    return thing in ("heights", "widths")


def sides_by(lists, way):
    """The row that the steps go down, and the row of which the steps are indexes."""
    return (lists[1], lists[0]) if way == "heights" else (lists[0], lists[1])


def staircase_fault(lists, thing):
    """The first fault of thing as a staircase, as (word, at), or None if it is one."""
    if not is_tuple_of(thing, 2):
        return ("paper", -1)
    way, steps = thing
    if not is_way(way):
        return ("way", -1)
    down, across = sides_by(lists, way)
    if not isinstance(steps, tuple) or len(steps) < 1 or len(steps) > len(down):
        return ("steps", -1)
    for i, step in enumerate(steps):
        if not is_index(step, len(across)) or (i >= 1 and step < steps[i - 1]):
            return ("step", i)
    return None


def is_staircase(lists, thing):
    """True if thing is a staircase of the lists, else False."""
    return staircase_fault(lists, thing) is None


def staircases_of(lists, way):
    """All staircases of that way: by the number of steps, then as Python sorts."""
    need("way", is_way(way))
    down, across = sides_by(lists, way)
    rows = [(step,) for step in range(len(across))]
    for _ in down:
        for steps in rows:
            yield (way, steps)
        rows = [(*row, step) for row in rows for step in range(row[-1], len(across))]


def counted_by(lists, staircase):
    """The set of the kinds that the staircase counts."""
    need("staircase", is_staircase(lists, staircase))
    way, steps = staircase
    down, across = sides_by(lists, way)
    counted = []
    for i, step in enumerate(steps):
        own = len(down) - 1 - i
        for other in range(step, len(across)):
            counted.append((other, own) if way == "heights" else (own, other))
    return tuple(sorted(counted))


def staircase_of(lists, kinds, way):
    """The staircase of that way that counts just the kinds."""
    need("kinds", is_kinds(lists, kinds) and kinds != () and is_closed(lists, kinds))
    need("way", is_way(way))
    least = {}
    for a, b in kinds:
        own, step = (b, a) if way == "heights" else (a, b)
        least[own] = min(step, least.get(own, step))
    return (way, tuple([least[down] for down in sorted(least, reverse=True)]))


def other_way(lists, staircase):
    """The staircase of the other way that counts the same kinds."""
    need("staircase", is_staircase(lists, staircase))
    way = "widths" if staircase[0] == "heights" else "heights"
    return staircase_of(lists, counted_by(lists, staircase), way)


def own_sizes(lists, staircase):
    """The lists of the staircase's own sizes: of its steps, and of the ends of their runs."""
    need("staircase", is_staircase(lists, staircase))
    way, steps = staircase
    down, across = sides_by(lists, way)
    ends = [i for i in range(len(steps)) if i + 1 == len(steps) or steps[i + 1] != steps[i]]
    stepped = tuple([across[steps[i]] for i in ends])
    ended = tuple([down[len(down) - 1 - i] for i in reversed(ends)])
    return (stepped, ended) if way == "heights" else (ended, stepped)
