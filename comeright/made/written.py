"""Written cases: rings, hues, seats alone, and steps to a top."""

from comeright.errors import NoNumber
from comeright.made.views import need_room, table_of, where_able
from comeright.tables.movers import need_movers
from comeright.tables.tables import MOST_HANDS, is_size
from comeright.webs.webs import all_beside, need_seat, need_web

LEAST_RING = 2


def need_size(size):
    """Refuse what is no size."""
    if not is_size(size):
        raise NoNumber(size)


def ring_marks(size, seat, view):
    """In a ring the first seat goes on from the last one's mark; each other one takes the mark ahead of it."""
    own, ahead = view
    if seat > 0:
        return [ahead]
    return [(own + 1) % size] if own == ahead else []


def hue_marks(size, view):
    """A seat that has the mark of a neighbour takes the least mark that none of them has."""
    near = view[1:]
    return [mark for mark in range(size) if mark not in near][:1] if view[0] in near else []


def alone_marks(view):
    """A seat takes a 1 where no neighbour has one, and gives it up where one has."""
    return [0] if 1 in view[1:] else [1]


def top_marks(size, is_top, view):
    """The top takes 0, each other seat one more than the least near it, as far as there are marks."""
    if is_top:
        return [0]
    return [min(min(view[1:], default=size) + 1, size - 1)]


def ring(seats, size, *, movers="one"):
    """The case of a ring of so many seats: right where just one is able."""
    if type(seats) is not int or not LEAST_RING <= seats <= MOST_HANDS:
        raise NoNumber(seats)
    need_size(size)
    need_movers(movers)
    need_room(size, seats)
    looks = [((seat - 1) % seats,) for seat in range(seats)]
    table = table_of(size, looks, lambda seat, view: ring_marks(size, seat, view))
    return (table, where_able(table, 1), movers)


def hues(web, size, *, movers="one"):
    """The case of a web in which each seat wants a mark that no neighbour has: right where nobody is able."""
    need_web(web)
    need_size(size)
    need_movers(movers)
    need_room(size, web[0])
    table = table_of(size, all_beside(web), lambda seat, view: hue_marks(size, view))
    return (table, where_able(table, 0), movers)


def alone(web, *, movers="one"):
    """The case of a web in which those with a 1 are to be no neighbours, but all others theirs."""
    need_web(web)
    need_movers(movers)
    need_room(2, web[0])
    table = table_of(2, all_beside(web), lambda seat, view: alone_marks(view))
    return (table, where_able(table, 0), movers)


def tops(web, top, size, *, movers="one"):
    """The case of a web in which each seat is to have its steps to the top, as far as there are marks."""
    need_web(web)
    need_seat(web, top)
    need_size(size)
    need_movers(movers)
    need_room(size, web[0])
    table = table_of(size, all_beside(web), lambda seat, view: top_marks(size, seat == top, view))
    return (table, where_able(table, 0), movers)
