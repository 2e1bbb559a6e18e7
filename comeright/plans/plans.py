"""Plans: a first and nexts; rows of plans."""

from comeright.errors import NoPlan, NoPlans
from comeright.kinds import is_row
from comeright.plans.terms import is_first, is_next, looks

MOST_ROUNDS = 6
MOST_PLANS = 3


def is_plan(thing):
    """Whether it is a plan."""
    if not is_row(thing, 2, 2):
        return False
    first, nexts = thing
    if not is_first(first) or not is_row(nexts, 0, MOST_ROUNDS):
        return False
    return all([is_next(term) for term in nexts])


def is_plans(thing):
    """Whether it is a row of one to three plans."""
    return is_row(thing, 1, MOST_PLANS) and all([is_plan(plan) for plan in thing])


def need_plan(plan):
    """Refuse what is no plan."""
    if not is_plan(plan):
        raise NoPlan("no plan")


def need_plans(plans):
    """Refuse what is no row of plans."""
    if not is_plans(plans):
        raise NoPlans("no plans")


def wide(plans):
    """The width of what surely are plans."""
    return 1 + max([len(nexts) for first, nexts in plans])


def does_next_look(plan, at):
    """Whether a plan has a next of this number, and it looks."""
    nexts = plan[1]
    return at < len(nexts) and looks(nexts[at])


def rounds(plan):
    """How many nexts a plan has."""
    need_plan(plan)
    return len(plan[1])


def width(plans):
    """One more than the most rounds of plans."""
    need_plans(plans)
    return wide(plans)


def looking(plan):
    """The rising numbers of the nexts of a plan that look."""
    need_plan(plan)
    return tuple([at for at in range(len(plan[1])) if does_next_look(plan, at)])
