"""Plans: a first and nexts; rows of plans."""

from comeright.errors import NoPlan, NoPlans
from comeright.plans.terms import are_firsts, are_nexts, looks

MOST_ROUNDS = 6
MOST_PLANS = 3


def is_plan(thing):
    """Whether it is a plan."""
    if type(thing) is not tuple or len(thing) != 2:
        return False
    first, nexts = thing
    if type(nexts) is not tuple or len(nexts) > MOST_ROUNDS:
        return False
    return are_firsts((first,)) and are_nexts(nexts)


def is_plans(thing):
    """Whether it is a row of one to three plans."""
    if type(thing) is not tuple or not 1 <= len(thing) <= MOST_PLANS:
        return False
    for plan in thing:
        if not is_plan(plan):
            return False
    return True


def need_plan(plan):
    """Refuse what is no plan."""
    if not is_plan(plan):
        raise NoPlan("no plan")


def need_plans(plans):
    """Refuse what is no row of plans."""
    if not is_plans(plans):
        raise NoPlans("no plans")


def wide(plans):
    """The width of what surely are plans."""
    most = 0
    for _, nexts in plans:
        if len(nexts) > most:
            most = len(nexts)
    return 1 + most


def rounds(plan):
    """How many nexts a plan has."""
    need_plan(plan)
    return len(plan[1])


def width(plans):
    """One more than the most rounds of plans."""
    need_plans(plans)
    return wide(plans)


def looking(plan):
    """The rising numbers of the nexts of a plan that look."""
    need_plan(plan)
    return tuple([at for at, term in enumerate(plan[1]) if looks(term)])
