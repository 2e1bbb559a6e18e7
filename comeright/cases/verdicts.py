"""Cases, and their verdicts: ranks of one that comes right, or a break."""

from comeright.cases.knots import binders_of, lots_of, ring_through
from comeright.cases.nets import Net, many_nexts, shifts_of
from comeright.errors import NoCase, TooWide
from comeright.kinds import is_rising, is_row
from comeright.tables.movers import MOVERS
from comeright.tables.tables import MOST_STANDINGS, is_table, stands_in

MOST_NEXTS = 20000


def is_case(thing):
    """Whether it is a case."""
    if not is_row(thing, 3, 3):
        return False
    table, right, movers = thing
    if not is_table(table) or not is_row(right, 0, MOST_STANDINGS) or movers not in MOVERS:
        return False
    return not [1 for standing in right if not stands_in(table, standing)] and is_rising(right)


def need_case(case):
    """Refuse what is no case."""
    if not is_case(case):
        raise NoCase("no case")


def net_of(case):
    """The net of what surely is a case; refuse one that has too many nexts."""
    table, _, movers = case
    shifts = shifts_of(table)
    if sum([many_nexts(row, movers) for row in shifts]) > MOST_NEXTS:
        raise TooWide(MOST_NEXTS)
    return Net(case, shifts)


def net_of_any(case):
    """The net of a case; refuse what is none, then one that has too many nexts."""
    need_case(case)
    return net_of(case)


def steps_right(net):
    """For each standing the most steps of a walk till it is right; None of those whose walks may be without an end."""
    told = [None if is_wrong else 0 for is_wrong in net.wrong]
    left = [len(net.wrong_nexts(number)) for number in range(len(told))]
    before = net.wrong_before()
    ready = [number for number in net.all_wrong() if left[number] == 0]
    for number in ready:
        told[number] = 1
    at = 0
    while at < len(ready):
        here = ready[at]
        at += 1
        # What is come to last has the most steps: they are gone through as their steps rise.
        for number in before[here]:
            left[number] -= 1
            if left[number] == 0:
                told[number] = told[here] + 1
                ready.append(number)
    return told


def least_of(steps):
    """The least ranks, by the most steps of each standing."""
    return tuple([None if many == 0 else many - 1 for many in steps])


def ring_among(net, steps):
    """A ring of standings whose walks may be without an end: one of the nexts of each is such, too."""
    here = steps.index(None)
    way = []
    places = {}
    while here not in places:
        places[here] = len(way)
        way.append(here)
        here = [later for later in net.onward[here] if steps[later] is None][0]
    return way[places[here]:]


def plain_break(net):
    """A break that is stuck or left; None where there is none."""
    for number, later in enumerate(net.onward):
        if net.wrong[number] and len(later) == 0:
            return ("stuck", net.standings[number])
        wrong = net.wrong_nexts(number)
        if not net.wrong[number] and len(wrong) > 0:
            return ("left", net.standings[number], net.standings[wrong[0]])
    return None


def told_ring(net, numbers):
    """The break that a ring of these standings is."""
    return ("ring", tuple([net.standings[number] for number in numbers]))


def verdict_by_steps(net):
    """The verdict by one, some or all, of a net without stuck or left standings."""
    steps = steps_right(net)
    if None in steps:
        return told_ring(net, ring_among(net, steps))
    return ("ranks", least_of(steps))


def verdict_by_turn(net):
    """The verdict by turn, of a net without stuck or left standings."""
    told = [None] * len(net.wrong)
    # Lots to which others lead come first: so each is told behind all that it leads to.
    for lot in reversed(lots_of(net)):
        binders = binders_of(net, lot)
        if binders == []:
            return told_ring(net, ring_through(net, lot))
        numbers = [told[later][0] for number in lot for later in net.wrong_nexts(number) if told[later] is not None]
        for number in lot:
            told[number] = (max(numbers, default=-1) + 1, binders[0])
    return ("ranks", tuple(told))


def verdict_of(net):
    """The verdict of a net: of several breaks one that is stuck or left ahead of a ring."""
    told = plain_break(net)
    if told is not None:
        return told
    if net.movers == "turn":
        return verdict_by_turn(net)
    return verdict_by_steps(net)


def verdict(case):
    """("ranks", ranks) of a case that comes right; else a break of it."""
    return verdict_of(net_of_any(case))


def comes_right(case):
    """Whether a case comes right."""
    return verdict_of(net_of_any(case))[0] == "ranks"
