"""Where a set of kinds that has a rule forks, and its kinds on either side of the fork."""

from onesheetmore.errors import NoRule
from onesheetmore.kindsets import is_wider_and_lower
from onesheetmore.overs import first_over


def need_rule(lists, kinds):
    """Refuse what is no set of kinds; NoRule if two of its kinds cross over a third one."""
    over = first_over(lists, kinds)
    if over is not None:
        raise NoRule(over)


def fork_of(lists, kinds):
    """(A, B): the greatest width and the greatest height of kinds that cross; None if no two cross."""
    need_rule(lists, kinds)
    crossing = [(y[0], z[1]) for y in kinds for z in kinds if is_wider_and_lower(y, z)]
    if len(crossing) == 0:
        return None
    return (max([a for a, _ in crossing]), max([b for _, b in crossing]))


def sides_of(lists, kinds):
    """The sets of the big, the flat and the tall kinds."""
    fork = fork_of(lists, kinds)
    if fork is None:
        return (kinds, (), ())
    flat = tuple([(a, b) for a, b in kinds if b < fork[1]])
    tall = tuple([(a, b) for a, b in kinds if a < fork[0]])
    big = tuple([kind for kind in kinds if kind not in flat and kind not in tall])
    return (big, flat, tall)
