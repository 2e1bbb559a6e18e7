"""How many steps away what a level hangs on may be."""

from comeright.plain.plain import need_goes
from comeright.plans.plans import does_next_look, need_plans, wide
from comeright.webs.webs import beside, need_web


def reach_above(plans, web, goes, far, at, seat):
    """How far a seat's level above level at reaches, by how far all seats' levels there do."""
    if not does_next_look(plans[goes[seat]], at):
        return far[seat]
    return max([far[seat]] + [far[other] + 1 for other in beside(web, seat)])


def levels_reach(plans, web, goes):
    """The reach of each seat's levels, of what surely are plans, a web and goes of it."""
    far = [0] * web[0]
    told = [far]
    for at in range(wide(plans) - 1):
        far = [reach_above(plans, web, goes, far, at, seat) for seat in range(web[0])]
        told.append(far)
    return tuple([tuple([made[seat] for made in told]) for seat in range(web[0])])


def reach(plans, web, goes):
    """For each seat a row: for each of its levels how far it reaches."""
    need_plans(plans)
    need_web(web)
    need_goes(plans, web, goes)
    return levels_reach(plans, web, goes)
