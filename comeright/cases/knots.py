"""Lots by numbers: wrong standings each of which is come to from each, who binds them, and rings through them."""


def ended(net):
    """The wrong standings, each behind all that can first be come to from it in one going through all of them."""
    told = []
    seen = [not is_wrong for is_wrong in net.wrong]
    places = [0] * len(seen)
    for start in net.all_wrong():
        way = [] if seen[start] else [start]
        seen[start] = True
        while len(way) > 0:
            here = way[-1]
            if places[here] == len(net.onward[here]):
                told.append(way.pop())
                continue
            later = net.onward[here][places[here]]
            places[here] += 1
            if not seen[later]:
                seen[later] = True
                way.append(later)
    return told


def lots_of(net):
    """The lots, each a rising list of numbers: one that leads to another one stands ahead of it."""
    told = []
    before = net.wrong_before()
    free = list(net.wrong)
    # Gone back from what ended last, just those are come to that it can be come to from.
    for start in reversed(ended(net)):
        lot = [start] if free[start] else []
        free[start] = False
        at = 0
        while at < len(lot):
            here = lot[at]
            at += 1
            for number in before[here]:
                if free[number]:
                    free[number] = False
                    lot.append(number)
        if len(lot) > 0:
            told.append(sorted(lot))
    return told


def moves_within(net, inside, number, seat):
    """The standings of a lot to which a move of a seat leads from one of them."""
    return [number + shift for shift in net.shifts[number][seat] if number + shift in inside]


def need_of(net, lot, inside, seat):
    """What keeps a seat from binding a lot, as a row of standings: one where it isn't able, or a move within.

    An empty row where nothing does.
    """
    for number in lot:
        if len(net.shifts[number][seat]) == 0:
            return (number,)
    for number in lot:
        within = moves_within(net, inside, number, seat)
        if len(within) > 0:
            return (number, within[0])
    return ()


def binders_of(net, lot):
    """The rising list of seats that bind a lot."""
    inside = {number: True for number in lot}
    return [seat for seat in range(len(net.shifts[0])) if need_of(net, lot, inside, seat) == ()]


def way_within(net, inside, start, goal):
    """The standings behind start on a shortest walk within a lot from start to goal."""
    ahead = {start: start}
    reached = [start]
    at = 0
    while goal not in ahead:
        here = reached[at]
        at += 1
        for later in net.onward[here]:
            if later in inside and later not in ahead:
                ahead[later] = here
                reached.append(later)
    told = []
    while goal != start:
        told.append(goal)
        goal = ahead[goal]
    return told[::-1]


def ring_through(net, lot):
    """A ring within a lot of several standings that no seat binds: it goes through what keeps each from it."""
    inside = {number: True for number in lot}
    start = lot[0]
    told = [start]
    for seat in range(len(net.shifts[0])):
        for number in need_of(net, lot, inside, seat):
            told.extend(way_within(net, inside, told[-1], number))
    told.extend(way_within(net, inside, told[-1], start))
    # The last one leads to the first: that is not told twice.
    return told[:-1]
