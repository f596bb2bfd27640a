"""Plans of cuts, their parts, and the plans of sheets of layings."""

from onesheetmore.common import merged, need
from onesheetmore.kinds import is_kind, is_number, is_pair_of_numbers, is_tuple_of
from onesheetmore.layingkinds import need_laying
from onesheetmore.sawing import REST, sawn_sheet
from onesheetmore.sheetlayings import boxes_on
from onesheetmore.stocks import need_sheet


def is_places(thing):
    """True if thing is a tuple of at least one number, ascending, else False."""
    if not isinstance(thing, tuple) or len(thing) == 0 or not all([is_number(place) for place in thing]):
        return False
    return all([thing[i] < thing[i + 1] for i in range(len(thing) - 1)])


def is_cut(thing):
    """True if thing is a tuple of three that begins as a node of cuts, else False."""
    return is_tuple_of(thing, 3) and thing[0] in ("across", "up")


def is_node(thing):
    """True if thing is a plan, whatever stands for the plans within it, else False."""
    if is_cut(thing):
        return is_places(thing[1]) and is_tuple_of(thing[2], len(thing[1]) + 1)
    if is_tuple_of(thing, 3):
        return thing[0] == "piece" and is_pair_of_numbers(thing[1:])
    return thing == REST


def is_plan(thing):
    """True if thing is a plan, else False."""
    waiting = [thing]
    while len(waiting) > 0:
        node = waiting.pop()
        if not is_node(node):
            return False
        if is_cut(node):
            waiting.extend(node[2])
    return True


def parts_between(node, part):
    """The parts (left, bottom, width, height) into which the node's cuts part this one."""
    way, places, _ = node
    left, bottom, width, height = part
    starts = [0, *places]
    if way == "up":
        spans = [(start, end - start) for start, end in zip(starts, [*places, width])]
        return [(left + start, bottom, many, height) for start, many in spans]
    spans = [(start, end - start) for start, end in zip(starts, [*places, height])]
    return [(left, bottom + start, width, many) for start, many in spans]


def nodes_of(plan, sheet):
    """(node, part) for all nodes of the plan of this sheet, in their sequence; a part as from parts_between."""
    nodes = []
    waiting = [(plan, (0, 0, *sheet))]
    while len(waiting) > 0:
        node, part = waiting.pop()
        nodes.append((node, part))
        if is_cut(node):
            within = list(zip(node[2], parts_between(node, part)))
            waiting.extend(within[::-1])
    return nodes


def node_fault(lists, node, part):
    """The word of the node's first fault, or None if it has none."""
    _, _, width, height = part
    if is_cut(node):
        side = width if node[0] == "up" else height
        return None if node[1][0] > 0 and node[1][-1] < side else "cuts"
    if node == REST:
        return None
    if not is_kind(lists, node[1:]):
        return "kind"
    return None if (lists[0][node[1]], lists[1][node[2]]) == (width, height) else "fit"


def plan_fault(lists, sheet, thing):
    """The first fault of thing as a plan of this sheet, as (word, at), or None if it is one."""
    if not is_plan(thing):
        return ("plan", -1)
    for i, (node, part) in enumerate(nodes_of(thing, sheet)):
        word = node_fault(lists, node, part)
        if word is not None:
            return (word, i)
    return None


def rests_in_plan(plan, sheet, many):
    """The rests of the plan of each of so many such sheets, as a settled stock."""
    return merged([(*part[2:], many) for node, part in nodes_of(plan, sheet) if node == REST])


def pieces_in_plan(plan, sheet):
    """The lot of the pieces of the plan."""
    return merged([(*node[1:], 1) for node, _ in nodes_of(plan, sheet) if node[0] == "piece"])


def cuts_in(plan):
    """How many places all nodes of the plan have together."""
    need("plan", is_plan(plan))
    return sum([len(node[1]) for node, _ in nodes_of(plan, (0, 0)) if is_cut(node)])


def parts_of(lists, sheet, plan):
    """(what, left, bottom, width, height) for each piece and each rest, None for a rest."""
    need("plan", plan_fault(lists, sheet, plan) is None)
    return tuple([
        (None if node == REST else node[1:], *part) for node, part in nodes_of(plan, sheet) if not is_cut(node)])


def plan_of(lists, stock, laying, sort, sheet):
    """The plan of this sheet in the laying."""
    need_laying(lists, stock, laying)
    need_sheet(stock, sort, sheet)
    return sawn_sheet(lists, stock[sort][:2], boxes_on(laying, sort, sheet))
