"""Tables for tests to hand in, and what is asked of them told anew."""

from itertools import product

# A seat alone, whose mark goes round; two that look at one another; three marks, looks in an order of their own.
ROUND = (3, (((), ((1,), (2,), (0,))),))
COPY = (2, (((1,), ((), (1,), (0,), ())), ((0,), ((), (1,), (0,), ()))))
STILL = (2, (((), ((), ())),) * 6)


def made(size, looks, rule):
    """The table of seats with such looks, in which rule(seat, view) tells marks."""
    seats = []
    for seat, row in enumerate(looks):
        views = product(range(size), repeat=1 + len(row))
        seats.append((tuple(row), tuple(tuple(sorted(set(rule(seat, view)) - {view[0]})) for view in views)))
    return (size, tuple(seats))


def some_table(rng, most=729):
    """A table of at most so many standings."""
    while True:
        size, many = rng.randint(2, 9), rng.randint(1, 6)
        if size ** many <= most:
            break
    looks = []
    for seat in range(many):
        others = [other for other in range(many) if other != seat]
        rng.shuffle(others)
        looks.append(others[:rng.randint(0, len(others))])
    often = rng.choice((0.1, 0.4, 0.8))
    return made(size, looks, lambda seat, view: [mark for mark in range(size) if rng.random() < often])


def all_standings(table):
    return list(product(range(table[0]), repeat=len(table[1])))


def view(table, seat, standing):
    return tuple(standing[other] for other in (seat,) + table[1][seat][0])


def moves(table, seat, standing):
    """By looking for the view among all as they rise."""
    views = list(product(range(table[0]), repeat=1 + len(table[1][seat][0])))
    return table[1][seat][1][views.index(view(table, seat, standing))]


def nexts(table, standing, movers):
    """All standings that are a next of this one."""
    may = [set(moves(table, seat, standing)) for seat in range(len(standing))]
    able = {seat for seat, marks in enumerate(may) if marks}
    told = set()
    for other in product(*[{mark} | marks for mark, marks in zip(standing, may)]):
        moved = {seat for seat in range(len(standing)) if other[seat] != standing[seat]}
        if movers == "all" and moved == able or movers == "some" and moved or movers in ("one", "turn") and len(moved) == 1:
            told.add(other)
    return tuple(sorted(told - {standing}))


def near_tables():
    """Things that are like tables, but none."""
    size, seats = COPY
    looks, rows = seats[0]
    for thing in (1, 0, -1, 10, True, None, "2", (2,), 10 ** 39):
        yield (thing, seats)
    for size in (3, 9):
        yield (size, seats)
    for thing in ((), list(seats), None, {}, seats[0], (STILL[1][0],) * 7, (seats[0],) * 3, seats[:1]):
        yield (2, thing)
    # Looks: itself, twice, no seat, no row.
    for row in ((0,), (1, 1), (2,), (-1,), (True,), (None,), [1], 1, None, ("1",), ((1,),), (False,)):
        views = rows if not isinstance(row, tuple) or len(row) < 2 else ((),) * 8
        yield (2, ((row, views), seats[1]))
    # One view more, one fewer, its own mark, marks in no order, twice, no marks.
    for row in (rows + ((),), rows[:3], (), list(rows), None):
        yield (2, ((looks, row), seats[1]))
    for marks in ((0,), (0, 1), (1, 1), (2,), (-1,), (True,), [1], 1, None, ("1",), ((1,),), ((),), [], {}):
        yield (2, ((looks, (marks,) + rows[1:]), seats[1]))
    yield (3, (((), ((2, 1), (), ())),))
    yield (3, (((), ((1, 1), (), ())),))
    yield (3, (((), ((), (0, 1), ())),))
    yield (3, (((), ((), (), (0, 2))),))
    for hand in (seats[0] + ((),), seats[0][:1], list(seats[0]), None, (rows, looks)):
        yield (2, (hand, seats[1]))
    yield from (list(COPY), COPY + ((),), COPY[:1], COPY[::-1], seats)


def is_table(thing):
    """Whether it is a table, mark by mark."""
    def whole(part, least, top):
        return type(part) is int and least <= part < top

    def row(part, most):
        return type(part) is tuple and len(part) <= most

    if not row(thing, 2) or len(thing) != 2 or not whole(thing[0], 2, 10) or not row(thing[1], 6) or not thing[1]:
        return False
    size, seats = thing
    for seat, hand in enumerate(seats):
        if not row(hand, 2) or len(hand) != 2 or not row(hand[0], 5) or not row(hand[1], 729):
            return False
        if not all(whole(look, 0, len(seats)) and look != seat for look in hand[0]) or len(set(hand[0])) < len(hand[0]):
            return False
        views = list(product(range(size), repeat=1 + len(hand[0])))
        if len(hand[1]) != len(views):
            return False
        for view, marks in zip(views, hand[1]):
            if not row(marks, 9) or not all(whole(mark, 0, size) and mark != view[0] for mark in marks):
                return False
            if any(one >= two for one, two in zip(marks, marks[1:])):
                return False
    return size ** len(seats) <= 729
