"""Taking shares of free boxes whose kinds are a chain: ascending, each holding the ones ahead of it."""

from onesheetmore.boxes import finer, parted, shares_of


def shares_per(lists, kind, lesser):
    """How many shares lesser a share of the kind has."""
    across = lists[0][kind[0]] // lists[0][lesser[0]]
    up = lists[1][kind[1]] // lists[1][lesser[1]]
    return across * up


def free_in(lists, free, kind):
    """How many shares of the kind the free boxes have."""
    return sum([shares_of(box) * shares_per(lists, box[:2], kind) for box in free if box[:2] >= kind])


def taken_of_box(lists, chain, box, kind, many):
    """Boxes of up to many shares of the kind in the free box, and boxes of what stays free of it."""
    taken, left = [], []
    part, missing = box, many
    while True:
        per_share = shares_per(lists, part[:2], kind)
        first, others = parted(part, min(shares_of(part), missing // per_share))
        taken.extend([finer(lists, own, kind[0], kind[1]) for own in first])
        missing = missing - sum([shares_of(own) * per_share for own in first])
        if missing == 0 or len(others) == 0:
            left.extend(others)
            return (taken, left)
        # One share more is broken, into those of the next lesser kind of the chain.
        share, behind = parted(others[0], 1)
        left.extend([*behind, *others[1:]])
        a, b = [lesser for lesser in chain if lesser < part[:2]][-1]
        part = finer(lists, share[0], a, b)


def taken_of_boxes(lists, chain, free, kind, many):
    """Boxes of many shares of the kind in the free boxes, and boxes of what stays free.

    The least shares are taken first: so the fewest great ones are broken, whatever comes later.
    """
    taken, left = [], []
    missing = many
    for box in sorted(free):
        if box[:2] < kind or missing == 0:
            left.append(box)
            continue
        own, others = taken_of_box(lists, chain, box, kind, missing)
        taken.extend(own)
        left.extend(others)
        missing = missing - sum([shares_of(part) for part in own])
    return (tuple(taken), left)
