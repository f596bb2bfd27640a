"""The checker of plans of cuts."""

from onesheetmore.common import let
from onesheetmore.plans import pieces_in_plan, plan_fault, rests_in_plan


def lets_plan(lists, sheet, thing):
    """The lot of all pieces of the plan, and its rests as a settled stock; else InvalidPaper."""
    let(plan_fault(lists, sheet, thing))
    return (pieces_in_plan(thing, sheet), rests_in_plan(thing, sheet, 1))
