"""The ground of a stock, parted for the big, the flat and the tall kinds of a set that has a rule."""

from onesheetmore.boxes import finer
from onesheetmore.forks import fork_of, sides_of
from onesheetmore.kindsets import holds
from onesheetmore.layingkinds import lot_of_boxes
from onesheetmore.stockboxes import whole_boxes


def chains_of(lists, kinds):
    """The kinds as which ground is told, ascending: those for big kinds, for flat ones, for tall ones."""
    big, flat, tall = sides_of(lists, kinds)
    fork = fork_of(lists, kinds)
    if fork is None or fork in big:
        return (big, flat, tall)
    # All big kinds hold the fork, so it sorts ahead of them.
    return ((fork, *big), flat, tall)


def side_of(fork, a, b):
    """Whose ground a top share (a, b) is: 0 for big kinds, 1 for flat ones, 2 for tall ones, None for none."""
    if fork is None:
        return 0
    is_lower, is_narrower = b < fork[1], a < fork[0]
    if is_lower and is_narrower:
        return None
    if is_lower:
        return 1
    return 2 if is_narrower else 0


def ground_boxes(lists, stock, kinds):
    """Three lists of boxes: the ground for big, for flat and for tall kinds, in the greatest shares of its chain."""
    chains = chains_of(lists, kinds)
    fork = fork_of(lists, kinds)
    grounds = ([], [], [])
    for box in whole_boxes(lists, stock):
        side = side_of(fork, box[0], box[1])
        held = [] if side is None else [kind for kind in chains[side] if holds(box[:2], kind)]
        if len(held) > 0:
            a, b = held[-1]
            grounds[side].append(finer(lists, box, a, b))
    return grounds


def own_ground(lists, stock, kinds):
    """The ground of the stock for big, for flat and for tall kinds, each as triples (a, b, many)."""
    return tuple([lot_of_boxes(boxes) for boxes in ground_boxes(lists, stock, kinds)])
