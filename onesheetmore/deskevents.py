"""Events of a desk, and logs."""

from onesheetmore.kinds import is_count, is_pair_of_numbers, is_sort, is_tuple_of


def is_lot_entry(thing):
    """True if thing is a triple as those of a lot, whatever the lists, else False."""
    return is_tuple_of(thing, 3) and is_pair_of_numbers(thing[:2]) and is_count(thing[2])


def is_some_lot(thing):
    """True if thing is a lot of some lists, else False."""
    if not isinstance(thing, tuple) or not all([is_lot_entry(entry) for entry in thing]):
        return False
    return all([thing[i][:2] < thing[i + 1][:2] for i in range(len(thing) - 1)])


def is_event(thing):
    """True if thing is an event, else False."""
    if is_tuple_of(thing, 2):
        return thing[0] == "job" and is_some_lot(thing[1])
    return is_tuple_of(thing, 4) and thing[0] in ("buy", "drop") and is_sort(thing[1:])


def is_log(thing):
    """True if thing is a log, else False."""
    return isinstance(thing, tuple) and all([is_event(entry) for entry in thing])
