"""Plans of cuts that tests of stages 22 and 23 share, and what tells them from other values, apart from the program."""

import random

from samples import ODD, SIDES, THREE, TWO, all_kinds
from test_boxes import shares_in
import samples

ONE = ((3, 3, 1),)
SAWN = ((1, 0, 0, (0, 1), (0, 1), (0, 1)), (0, 1, 0, (0, 1), (2, 1), (0, 1)))
PLAN = ("up", (2,), (("across", (2,), (("across", (1,), (("piece", 1, 0), ("rest",))), ("rest",))),
                     ("across", (2,), (("piece", 0, 1), ("rest",)))))
REST = ("rest",)


def is_plan(thing):
    """The words of point 83."""
    if type(thing) is not tuple or not thing or type(thing[0]) is not str:
        return False
    if thing[0] == "piece":
        return len(thing) == 3 and samples.is_pair(thing[1:])
    if thing[0] not in ("across", "up"):
        return thing == REST
    if len(thing) != 3 or type(thing[1]) is not tuple or type(thing[2]) is not tuple:
        return False
    places, plans = thing[1:]
    if not places or not all([samples.is_number(place) for place in places]) or list(places) != sorted(set(places)):
        return False
    return len(plans) == len(places) + 1 and all([is_plan(plan) for plan in plans])


def walk(plan, left, bottom, width, height):
    """(node, left, bottom, width, height) for all nodes in their sequence."""
    found = [(plan, left, bottom, width, height)]
    if plan[0] in ("up", "across"):
        starts = (0,) + plan[1]
        ends = plan[1] + ((width if plan[0] == "up" else height),)
        for start, end, within in zip(starts, ends, plan[2]):
            if plan[0] == "up":
                found += walk(within, left + start, bottom, end - start, height)
            else:
                found += walk(within, left, bottom + start, width, end - start)
    return found


def first_fault(lists, sheet, plan):
    """(word, number of the node) of the first fault of what is a plan, or None."""
    for i, (node, _, _, width, height) in enumerate(walk(plan, 0, 0, *sheet)):
        if node[0] in ("up", "across"):
            side = width if node[0] == "up" else height
            if not all([0 < place < side for place in node[1]]):
                return ("cuts", i)
        elif node[0] == "piece":
            if not samples.is_kind(lists)(node[1:]):
                return ("kind", i)
            if (lists[0][node[1]], lists[1][node[2]]) != (width, height):
                return ("fit", i)
    return None


def is_let_plan(lists, sheet):
    return lambda thing: is_plan(thing) and first_fault(lists, sheet, thing) is None


def random_plan(lists, width, height, rng, depth=5):
    """A plan of a part of these sides, with pieces where kinds fit it."""
    kinds = [kind for kind in all_kinds(lists) if (lists[0][kind[0]], lists[1][kind[1]]) == (width, height)]
    if kinds and rng.random() < 0.7:
        return ("piece", *kinds[0])
    ways = [way for way, side in (("up", width), ("across", height)) if side > 1]
    if depth == 0 or not ways or rng.random() < 0.2:
        return REST
    way = rng.choice(ways)
    side = width if way == "up" else height
    places = tuple(sorted(rng.sample(range(1, side), min(side - 1, rng.choice([1, 1, 2, 3])))))
    parts = [end - start for start, end in zip((0,) + places, places + (side,))]
    return (way, places, tuple([
        random_plan(lists, part if way == "up" else width, height if way == "up" else part, rng, depth - 1)
        for part in parts]))


def random_plans(many, seed):
    """So many (lists, sheet, plan)."""
    rng = random.Random(seed)
    made = [(TWO, (3, 3), PLAN), (TWO, (3, 3), REST), (TWO, (2, 1), ("piece", 1, 0))]
    while len(made) < many:
        lists = rng.choice([TWO, THREE, ODD, SIDES, ((1, 2, 6), (1, 4))])
        sheet = (rng.randint(1, 9), rng.randint(1, 9))
        made.append((lists, sheet, random_plan(lists, *sheet, rng)))
    return made


def pieces_on(lists, laying, sort, sheet):
    """(a, b, left, bottom) of the laying's pieces in this sheet."""
    return [(*box[:2], column * lists[0][box[0]], row * lists[1][box[1]])
            for box in laying for own_sort, own_sheet, column, row in shares_in(box) if (own_sort, own_sheet) == (sort, sheet)]


def tops(sizes, side):
    """The starts of a side's top parts and behind them where they end; the greatest ones come first."""
    starts = [0]
    for size in reversed(sizes):
        while starts[-1] + size <= side:
            starts.append(starts[-1] + size)
    return starts


def defined_plan(lists, pieces, sheet):
    """The plan of a sheet with these pieces (a, b, left, bottom) by the rules of point 84, part by part."""
    def within(left, bottom, width, height):
        return [(a, b) for a, b, x, y in pieces if left <= x < left + width and bottom <= y < bottom + height]

    def parted(way, starts, plans):
        return plans[0] if len(plans) == 1 else (way, tuple(starts[1:]), tuple(plans))

    def share(i, b, left, bottom):
        inside = within(left, bottom, lists[0][i], lists[1][b])
        if not inside:
            return REST
        if inside == [(i, b)]:
            return ("piece", i, b)
        if all([kind[0] != i for kind in inside]):
            starts = range(0, lists[0][i], lists[0][i - 1])
            return parted("up", starts, [share(i - 1, b, left + start, bottom) for start in starts])
        starts = range(0, lists[1][b], lists[1][b - 1])
        return parted("across", starts, [share(i, b - 1, left, bottom + start) for start in starts])
    if not pieces:
        return REST
    columns, bands = tops(lists[0], sheet[0]), tops(lists[1], sheet[1])
    made = []
    for left, right in zip(columns, columns[1:]):
        if not within(left, 0, right - left, bands[-1]):
            made.append(REST)
            continue
        plans = [share(lists[0].index(right - left), lists[1].index(top - bottom), left, bottom)
                 for bottom, top in zip(bands, bands[1:])]
        made.append(parted("across", bands[:-1], plans))
    plan = parted("up", columns[:-1], made)
    if columns[-1] < sheet[0]:
        plan = ("up", (columns[-1],), (plan, REST))
    if bands[-1] < sheet[1]:
        plan = ("across", (bands[-1],), (plan, REST))
    return plan
