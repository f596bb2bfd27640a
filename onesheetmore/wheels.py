"""Lots that go round a hole on a sheet that is whole neither way."""

from onesheetmore.wholes import useful_side, whole_ways


def greatest_fitting(sizes, side):
    """The index of the greatest size that is at most the side."""
    return max([i for i, size in enumerate(sizes) if size <= side])


def wheel_side(sizes, side):
    """(index, u, g, s): of the greatest fitting size, u the smallest ones in it, g u + s in the side."""
    index = greatest_fitting(sizes, side)
    many = sizes[index] // sizes[0]
    parts = useful_side(sizes, side) // sizes[0]
    return (index, many, parts // many, parts % many)


def wheel_lot(lists, sheet):
    """A lot that can be spread on the sheet and does not go in; None if the sheet is whole one way."""
    if whole_ways(lists, sheet) != "neither":
        return None
    wide, u, g, s = wheel_side(lists[0], sheet[0])
    high, v, h, t = wheel_side(lists[1], sheet[1])
    upright = 2 * s + (h - 1) * (u + s)
    flat = 2 * t + (g - 1) * (h * v + t)
    return ((0, high, upright), (wide, 0, flat))


def wheel_spots(lists, sheet):
    """The kinds and left lower corners of the wheel's pieces, measured in smallest shares."""
    wide, u, g, s = wheel_side(lists[0], sheet[0])
    high, v, h, t = wheel_side(lists[1], sheet[1])
    spots = []
    # Four arms round the hole, in the corner that is u + s wide and v + t high.
    for i in range(t):
        spots.append((wide, 0, 0, i))
        spots.append((wide, 0, s, v + i))
    for i in range(s):
        spots.append((0, high, u + i, 0))
        spots.append((0, high, i, t))
    # Bands of upright pieces above the arms, then columns of flat ones beside both.
    for band in range(1, h):
        for i in range(u + s):
            spots.append((0, high, i, band * v + t))
    for column in range(1, g):
        for i in range(h * v + t):
            spots.append((wide, 0, column * u + s, i))
    return spots


def wheel_spread(lists, sheet):
    """A spread of the lot of wheel_lot on this one sheet; None if the sheet is whole one way."""
    if whole_ways(lists, sheet) != "neither":
        return None
    width, height = lists[0][0], lists[1][0]
    return tuple([
        (a, b, 0, 0, (across * width, 1), (up * height, 1))
        for a, b, across, up in wheel_spots(lists, sheet)])


def wheel_refusal(lists, sheet):
    """The staircase by heights that refuses the lot of wheel_lot; None if the sheet is whole one way."""
    if whole_ways(lists, sheet) != "neither":
        return None
    wide = greatest_fitting(lists[0], sheet[0])
    high = greatest_fitting(lists[1], sheet[1])
    return ("heights", tuple([0 if b >= high else wide for b in reversed(range(len(lists[1])))]))
