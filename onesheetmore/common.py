"""What many files need: refusing a parameter or a paper, rounding up, merging triples."""

from onesheetmore.errors import InvalidPaper, NotUsable


def need(word, is_as_stated):
    """Raise NotUsable(word, -1) unless the parameter of that name is as stated."""
    if not is_as_stated:
        raise NotUsable(word, -1)


def let(fault):
    """Raise InvalidPaper of the fault (word, at), unless it is None."""
    if fault is not None:
        word, at = fault
        raise InvalidPaper(word, at)


def rounded_up(top, bottom):
    """top / bottom, rounded up; bottom is at least 1."""
    return -(-top // bottom)


def merged(triples):
    """Triples (first, second, many) with counts added, ascending, without counts of 0."""
    counts = {}
    for first, second, many in triples:
        counts[first, second] = counts.get((first, second), 0) + many
    return tuple([(*pair, counts[pair]) for pair in sorted(counts) if counts[pair] != 0])


def lessened(triples, others):
    """Merged triples with the counts of others taken off; None if a count falls below 0."""
    left = merged([*triples, *[(first, second, -many) for first, second, many in others]])
    if [many for _, _, many in left if many < 0]:
        return None
    return left
