"""Webs of seats and ties; neighbours and steps in them."""

from comeright.errors import NoNumber, NoSeat, NoWeb
from comeright.kinds import is_below, is_rising, is_row

MOST_SEATS = 12


def is_tie(many, thing):
    """Whether it is a pair of two of so many seats, the lesser ahead."""
    return is_row(thing, 2, 2) and is_below(thing[1], many) and is_below(thing[0], thing[1])


def is_web(thing):
    """Whether it is a web."""
    if not is_row(thing, 2, 2):
        return False
    many, ties = thing
    if not is_below(many, MOST_SEATS + 1) or many == 0 or type(ties) is not tuple:
        return False
    return all([is_tie(many, tie) for tie in ties]) and is_rising(ties)


def is_seat(web, thing):
    """Whether it is a seat of a web."""
    return is_below(thing, web[0])


def is_seats(web, thing):
    """Whether it is a rising row of seats of a web, perhaps none."""
    return type(thing) is tuple and all([is_seat(web, seat) for seat in thing]) and is_rising(thing)


def need_web(web):
    """Refuse what is no web."""
    if not is_web(web):
        raise NoWeb("no web")


def need_seat(web, seat):
    """Refuse what is no seat of a web."""
    if not is_seat(web, seat):
        raise NoSeat(seat)


def need_seats(web, seats):
    """Refuse what is no rising row of seats of a web."""
    if not is_seats(web, seats):
        raise NoSeat(seats)


def beside(web, seat):
    """The rising neighbours of a seat, of what surely is a web and a seat of it."""
    # Ties rise: so those to lesser seats come ahead, and each of the two parts rises.
    lesser = [low for low, high in web[1] if high == seat]
    greater = [high for low, high in web[1] if low == seat]
    return tuple(lesser + greater)


def are_neighbours(web, thing, other):
    """Whether both are seats of a web that have a tie."""
    return is_seat(web, thing) and is_seat(web, other) and other in beside(web, thing)


def pairs(web):
    """The rising row of (seat, neighbour), for each seat and each of its neighbours."""
    return tuple([(seat, other) for seat in range(web[0]) for other in beside(web, seat)])


def steps_from(web, seats):
    """For each seat the fewest steps to one of these, or None, of what surely are seats of a web."""
    told = [None] * web[0]
    for seat in seats:
        told[seat] = 0
    edge = list(seats)
    far = 0
    while len(edge) > 0:
        far += 1
        beyond = []
        for seat in edge:
            for other in beside(web, seat):
                if told[other] is None:
                    told[other] = far
                    beyond.append(other)
        edge = beyond
    return tuple(told)


def neighbours(web, seat):
    """The rising row of seats that a seat has a tie with."""
    need_web(web)
    need_seat(web, seat)
    return beside(web, seat)


def steps(web, seat, other):
    """The fewest ties on a way from a seat to another one; None where there is no way."""
    need_web(web)
    need_seat(web, seat)
    need_seat(web, other)
    return steps_from(web, (other,))[seat]


def steps_to(web, seats):
    """For each seat the fewest steps to one of a rising row of seats, or None."""
    need_web(web)
    need_seats(web, seats)
    return steps_from(web, seats)


def within(web, seat, far):
    """The rising row of seats at most so many steps away from a seat, itself too."""
    need_web(web)
    need_seat(web, seat)
    if type(far) is not int or far < 0:
        raise NoNumber(far)
    told = steps_from(web, (seat,))
    return tuple([other for other in range(web[0]) if told[other] is not None and told[other] <= far])
