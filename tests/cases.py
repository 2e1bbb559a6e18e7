"""Cases for tests to hand in, and what is asked of them told anew."""

from itertools import combinations, product

from tests import tables
from tests.tables import made, some_table

MOVERS = ("one", "some", "all", "turn")


def sighted(size, many, rule):
    """The table in which each seat sees all others: rule(seat, standing) tells marks."""
    def by_view(seat, view):
        return rule(seat, view[1:seat + 1] + view[:1] + view[seat + 1:])

    return made(size, [[other for other in range(many) if other != seat] for seat in range(many)], by_view)


def gray():
    """729 standings, each next to the one ahead of it, the first to the last: one mark is another in each."""
    told = []
    for figures in product(range(3), repeat=6):
        told.append(tuple((one - ahead) % 3 for one, ahead in zip(figures, (0,) + figures)))
    return told


def along(way, last):
    """The table in which one seat alone moves at each standing of a way, to the next one; at the last one as told."""
    step = dict(zip(way, way[1:] + [last]))

    def rule(seat, standing):
        later = step[standing]
        return [later[seat]] if later is not None else []

    return sighted(3, 6, rule)


GRAY = gray()
DOWN = along(GRAY, None)
ROUND_ALL = along(GRAY, GRAY[0])


def with_nexts(movers, counts):
    """A table by which standings, as they rise, have so many nexts; counts are what some or all tell of 1s and 2s."""
    rows = dict(zip(product(range(3), repeat=6), counts))

    def rule(seat, standing):
        many = rows[standing][seat]
        return [mark for mark in range(3) if mark != standing[seat]][:many]

    return sighted(3, 6, rule)


def filled(*numbers):
    return numbers + (0,) * (6 - len(numbers))


# By some 26, 80, 31 and 47 nexts; by all 16, 32, 1.
SOME_MOST = [filled(2, 2, 2, 2)] * 19 + [filled(1, 1, 1, 1, 1)] * 4 + [filled(2, 2, 2)] * 706
SOME_MORE = [filled(2, 2, 2, 2)] * 19 + [filled(2, 1, 1, 1, 1)] + [filled(2, 2, 2)] * 709
ALL_MOST = [filled(2, 2, 2, 2, 2)] * 521 + [filled(2, 2, 2, 2)] * 208
ALL_MORE = [filled(2, 2, 2, 2, 2)] * 522 + [filled(2, 2, 2, 2)] * 206 + [filled(1)]


def graph(case):
    """For each standing the set of its nexts."""
    table, _, movers = case
    return {standing: set(tables.nexts(table, standing, movers)) for standing in tables.all_standings(table)}


def some_case(rng, most=81, movers=None, closed=None):
    """A case of at most so many standings: often nothing right leads to what is wrong, and nothing is stuck."""
    table = some_table(rng, most)
    movers = movers or rng.choice(MOVERS)
    near = graph((table, (), movers))
    right = {standing for standing in near if rng.random() < rng.choice((0, 0.05, 0.3, 0.8))}
    if closed if closed is not None else rng.random() < 0.8:
        right |= {standing for standing, later in near.items() if not later}
        while True:
            more = {later for standing in right for later in near[standing]} - right
            if not more:
                break
            right |= more
    return (table, tuple(sorted(right)), movers)


def wrong_of(case):
    right = set(case[1])
    return [standing for standing in tables.all_standings(case[0]) if standing not in right]


def mover(standing, later):
    (seat,) = [seat for seat in range(len(standing)) if standing[seat] != later[seat]]
    return seat


def able(table, standing):
    return {seat for seat in range(len(standing)) if tables.moves(table, seat, standing)}


def tied(nodes, near):
    """Whether each of these can be come to from each within them."""
    for start in nodes:
        seen, left = {start}, [start]
        while left:
            for later in near[left.pop()] & nodes - seen:
                seen.add(later)
                left.append(later)
        if seen != nodes:
            return False
    return True


def goes_on(case, nodes, near):
    """Whether a walk can go round in just these wrong standings for ever, so that it counts."""
    table, _, movers = case
    edges = [(standing, later) for standing in nodes for later in near[standing] & nodes]
    if not edges or not tied(nodes, near):
        return False
    if movers != "turn":
        return True
    moved = {mover(standing, later) for standing, later in edges}
    return all(
        seat in moved or any(seat not in able(table, standing) for standing in nodes) for seat in range(len(table[1]))
    )


def comes_right_by_sets(case):
    """By all sets of wrong standings in which a walk might go round: of a few standings alone."""
    near = graph(case)
    wrong = wrong_of(case)
    if any(near[standing] & set(wrong) for standing in case[1]) or any(not near[standing] for standing in wrong):
        return False
    return not any(
        goes_on(case, set(nodes), near) for many in range(1, len(wrong) + 1) for nodes in combinations(wrong, many)
    )


def come_from(near, standing, nodes):
    """All of these nodes to which walks of a step or more lead from a standing, within these."""
    seen, left = set(), [standing]
    while left:
        for later in near[left.pop()] & nodes - seen:
            seen.add(later)
            left.append(later)
    return seen


def lots(case):
    """The lots, by what can be come to from each."""
    near = graph(case)
    nodes = set(wrong_of(case))
    reach = {standing: come_from(near, standing, nodes) | {standing} for standing in nodes}
    told = {tuple(sorted(other for other in reach[standing] if standing in reach[other])) for standing in nodes}
    return tuple(sorted(told))


def binders(case, lot):
    table = case[0]
    told = []
    for seat in range(len(table[1])):
        leave = all(
            standing[:seat] + (mark,) + standing[seat + 1:] not in lot
            for standing in lot for mark in tables.moves(table, seat, standing)
        )
        if leave and all(seat in able(table, standing) for standing in lot):
            told.append(seat)
    return tuple(told)


def comes_right(case):
    """By growing what surely comes right; by turn by lots."""
    near = graph(case)
    wrong = set(wrong_of(case))
    if any(near[standing] & wrong for standing in case[1]) or any(not near[standing] for standing in wrong):
        return False
    if case[2] == "turn":
        return all(binders(case, lot) for lot in lots(case))
    sure = set(case[1])
    while True:
        more = {standing for standing in wrong - sure if near[standing] <= sure}
        if not more:
            return sure == set(near)
        sure |= more


def is_ranks(case, ranks):
    """Whether a row of a fitting form is ranks, word by word."""
    table, right, movers = case
    near = graph(case)
    told = dict(zip(tables.all_standings(table), ranks))
    for standing, rank in told.items():
        if (rank is None) != (standing in right):
            return False
        if rank is None:
            if any(later not in right for later in near[standing]):
                return False
            continue
        if not near[standing]:
            return False
        for later in near[standing]:
            if later in right:
                continue
            if movers != "turn":
                if told[later] >= rank:
                    return False
            elif not (told[later][0] < rank[0] or mover(standing, later) != rank[1] and told[later] == rank):
                return False
        if movers == "turn" and rank[1] not in able(table, standing):
            return False
    return True


def is_ring(case, ring):
    """Whether a row of standings is a ring, word by word."""
    table, right, movers = case
    near = graph(case)
    if len(ring) < 2 or any(standing in right for standing in ring):
        return False
    steps = list(zip(ring, ring[1:] + ring[:1]))
    if any(later not in near[standing] for standing, later in steps):
        return False
    if movers != "turn":
        return True
    moved = {mover(standing, later) for standing, later in steps}
    return all(
        seat in moved or any(seat not in able(table, standing) for standing in ring) for seat in range(len(table[1]))
    )


def is_break(case, told):
    near = graph(case)
    if told[0] == "stuck":
        return told[1] not in case[1] and not near[told[1]]
    if told[0] == "left":
        return told[1] in case[1] and told[2] in near[told[1]] and told[2] not in case[1]
    return told[0] == "ring" and is_ring(case, told[1])
