"""Reading the lines of layings."""

from onesheetmore.boxes import ground_in, grounds_meet, is_box
from onesheetmore.common import need
from onesheetmore.errors import InvalidText
from onesheetmore.textreadings import number_in, pair_in, words_of


def box_in(word):
    """What the word writes in the form of a box, perhaps with None for what is no number; None if in no such form."""
    parts = word.split(":")
    if len(parts) != 5:
        return None
    return (*pair_in(parts[0], ","), number_in(parts[1]), *[pair_in(part, "*") for part in parts[2:]])


def read_laying(lists, stock, text):
    """The laying of the stock with this line."""
    need("text", isinstance(text, str))
    boxes, grounds = [], []
    for i, word in enumerate(words_of(text)):
        box = box_in(word)
        if not is_box(lists, stock, box):
            raise InvalidText(0, i)
        ground = ground_in(lists, box)
        if any([grounds_meet(ground, other) for other in grounds]):
            raise InvalidText(0, i)
        boxes.append(box)
        grounds.append(ground)
    return tuple(boxes)
