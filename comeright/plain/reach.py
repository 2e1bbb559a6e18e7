"""How many steps away what a level hangs on may be."""

from comeright.plain.plain import need_goes
from comeright.plans.plans import need_plans, wide
from comeright.plans.terms import looks
from comeright.webs.webs import all_beside, need_web


def looking_of(plans):
    """For each plan whether its nexts look, for each number that one of the plans has a next of."""
    many = wide(plans) - 1
    return [[looks(term) for term in nexts] + [False] * (many - len(nexts)) for _, nexts in plans]


def reach_of(looking, near, goes):
    """The reach of each seat's levels, by which nexts look and by the neighbours of each seat."""
    far = [0] * len(goes)
    told = [far]
    for at in range(len(looking[0])):
        above = []
        for seat, number in enumerate(goes):
            most = far[seat]
            if looking[number][at]:
                for other in near[seat]:
                    if far[other] >= most:
                        most = far[other] + 1
            above.append(most)
        far = above
        told.append(far)
    return tuple(zip(*told))


def levels_reach(plans, web, goes):
    """The reach of each seat's levels, of what surely are plans, a web and goes of it."""
    return reach_of(looking_of(plans), all_beside(web), goes)


def reach(plans, web, goes):
    """For each seat a row: for each of its levels how far it reaches."""
    need_plans(plans)
    need_web(web)
    need_goes(plans, web, goes)
    return levels_reach(plans, web, goes)
