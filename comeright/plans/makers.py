"""Makers: terms and plans made ready to be asked again and again, as it is along a run."""

from comeright.plans.terms import OPS, WORTHS, worth_of

# To make a term ready takes as long as to go through it about so many times.
FEW = 5


def own_worth(worth, heap):
    """The worth itself."""
    return worth


def heap_ties(worth, heap):
    """How many neighbours there are."""
    return len(heap)


def heap_sum(worth, heap):
    """All of the heap together."""
    return sum(heap) % WORTHS


def heap_least(worth, heap):
    """The least of the heap; 0 of none."""
    return min(heap) if len(heap) > 0 else 0


def heap_most(worth, heap):
    """The greatest of the heap; 0 of none."""
    return max(heap) if len(heap) > 0 else 0


BARE = {
    "word": own_worth,
    "own": own_worth,
    "ties": heap_ties,
    "sum": heap_sum,
    "least": heap_least,
    "most": heap_most,
}


def maker(term):
    """What tells of a worth and a heap what a term comes to, of what surely is one."""
    if type(term) is int:
        return lambda worth, heap: term
    if len(term) == 1:
        return BARE[term[0]]
    if len(term) == 2:
        counted = term[1]
        return lambda worth, heap: heap.count(counted)
    one = maker(term[1])
    two = maker(term[2])
    if len(term) == 3:
        action = OPS[term[0]]
        return lambda worth, heap: action(one(worth, heap), two(worth, heap))
    three = maker(term[3])
    return lambda worth, heap: three(worth, heap) if one(worth, heap) == 0 else two(worth, heap)


def teller(term):
    """The same as a maker of a term, but that goes through it each time."""
    return lambda worth, heap: worth_of(term, worth, heap)


def makers_of(plan, times):
    """(first, nexts): what makes level 0 of what surely is a plan, and, for each of its nexts, the level above.

    So many times they are to be asked, each: a term that is gone through but a few times need not be made ready.
    """
    first, nexts = plan
    if times * len(nexts) <= FEW:
        return (teller(first), [teller(term) for term in nexts])
    told = []
    for at, term in enumerate(nexts):
        alike = nexts.index(term)
        if alike < at:
            told.append(told[alike])
        elif times * nexts.count(term) > FEW:
            told.append(maker(term))
        else:
            told.append(teller(term))
    return (maker(first) if times > FEW else teller(first), told)


def row_made(makers, many, word, held):
    """A row of so many levels, each by the one just made and by what a seat has of its neighbours."""
    first, nexts = makers
    # A first looks at none of the heap: only how many are in it counts.
    worth = first(word, held)
    row = [worth]
    heaps = list(zip(*held)) if len(held) > 0 else [()] * many
    for make, heap in zip(nexts, heaps):
        worth = make(worth, heap)
        row.append(worth)
    return tuple(row) + (0,) * (many - len(row))


def row_told(plan, many, word, held):
    """The same row as its makers make, of what surely is a plan, gone through once."""
    first, nexts = plan
    worth = worth_of(first, word, held)
    row = [worth]
    for at, term in enumerate(nexts):
        worth = worth_of(term, worth, [copy[at] for copy in held])
        row.append(worth)
    return tuple(row) + (0,) * (many - len(row))
