"""Makers: terms and plans made ready to be asked again and again, as it is along a run."""

from comeright.plans.terms import BARE, OPS, worth_of

# To make a term ready takes as long as to go through it about so many times.
FEW = 5


def maker(term):
    """What tells of a worth and a heap what a term comes to, of what surely is one."""
    if type(term) is int:
        return lambda worth, heap: term
    if len(term) == 1:
        return BARE[term[0]]
    if len(term) == 2:
        counted = term[1]
        return lambda worth, heap: heap.count(counted)
    one = maker(term[1])
    two = maker(term[2])
    if len(term) == 3:
        action = OPS[term[0]]
        return lambda worth, heap: action(one(worth, heap), two(worth, heap))
    three = maker(term[3])
    return lambda worth, heap: three(worth, heap) if one(worth, heap) == 0 else two(worth, heap)


def asked(make, worth, heap):
    """What a maker tells: worth_of for terms made ready."""
    return make(worth, heap)


def made_ready(plan):
    """The makers of a plan's first, and of its nexts."""
    first, nexts = plan
    told = []
    for at, term in enumerate(nexts):
        alike = nexts.index(term)
        told.append(told[alike] if alike < at else maker(term))
    return (maker(first), told)


def telling(plan, times):
    """(tell, parts) of a plan that is gone through so many times.

    Its parts stand as in the plan: tell tells of one, of a worth and of a heap what it comes to.
    """
    _, nexts = plan
    if len(nexts) == 0 or times * nexts.count(nexts[0]) <= FEW:
        return (worth_of, plan)
    return (asked, made_ready(plan))


def row_made(tell, parts, many, word, held):
    """A row of so many levels, each by the one just made and by what a seat has of its neighbours."""
    first, nexts = parts
    # A first looks at none of the heap: only how many are in it counts.
    worth = tell(first, word, held)
    row = [worth]
    heaps = list(zip(*held)) if len(held) > 0 else [()] * many
    for part, heap in zip(nexts, heaps):
        worth = tell(part, worth, heap)
        row.append(worth)
    return tuple(row) + (0,) * (many - len(row))
