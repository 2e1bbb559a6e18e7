"""Webs of seats and ties; neighbours and steps in them."""

from comeright.errors import NoNumber, NoSeat, NoWeb
from comeright.kinds import is_below

MOST_SEATS = 12


def is_web(thing):
    """Whether it is a web."""
    if type(thing) is not tuple or len(thing) != 2:
        return False
    many, ties = thing
    if type(many) is not int or not 1 <= many <= MOST_SEATS or type(ties) is not tuple:
        return False
    # Webs are asked for often: so all of a tie is looked at in one go, and no part of it twice.
    low_ahead = high_ahead = 0
    for tie in ties:
        if type(tie) is not tuple or len(tie) != 2:
            return False
        low, high = tie
        if type(low) is not int or type(high) is not int:
            return False
        if low == low_ahead and high_ahead < high < many:
            high_ahead = high
        elif low_ahead < low < high < many:
            low_ahead = low
            high_ahead = high
        else:
            return False
    return True


def is_seat(web, thing):
    """Whether it is a seat of a web."""
    return is_below(thing, web[0])


def is_seats(web, thing):
    """Whether it is a rising row of seats of a web, perhaps none."""
    if type(thing) is not tuple:
        return False
    ahead = -1
    for seat in thing:
        if type(seat) is not int or not ahead < seat < web[0]:
            return False
        ahead = seat
    return True


def need_web(web):
    """Refuse what is no web."""
    if not is_web(web):
        raise NoWeb("no web")


def need_seat(web, seat):
    """Refuse what is no seat of a web."""
    if type(seat) is not int or not 0 <= seat < web[0]:
        raise NoSeat(seat)


def need_seats(web, seats):
    """Refuse what is no rising row of seats of a web."""
    if not is_seats(web, seats):
        raise NoSeat(seats)


def beside(web, seat):
    """The rising neighbours of a seat, of what surely is a web and a seat of it."""
    # Ties rise: so those to lesser seats come ahead, and each of the two parts rises.
    return tuple([low + high - seat for low, high in web[1] if low == seat or high == seat])


def all_beside(web):
    """For each seat the rising list of its neighbours, of what surely is a web."""
    near = [[] for _ in range(web[0])]
    for low, high in web[1]:
        near[low].append(high)
        near[high].append(low)
    return near


def are_neighbours(web, thing, other):
    """Whether both are seats of a web that have a tie."""
    return is_seat(web, thing) and is_seat(web, other) and other in beside(web, thing)


def pairs(web):
    """The rising row of (seat, neighbour), for each seat and each of its neighbours."""
    return tuple([(seat, other) for seat, others in enumerate(all_beside(web)) for other in others])


def steps_from(web, seats):
    """For each seat the fewest steps to one of these, or None, of what surely are seats of a web."""
    many = web[0]
    told = [None] * many
    for seat in seats:
        told[seat] = 0
    if len(web[1]) == 0:
        return tuple(told)
    near = all_beside(web)
    reached = list(seats)
    at = 0
    while at < len(reached) < many:
        seat = reached[at]
        at += 1
        for other in near[seat]:
            if told[other] is None:
                told[other] = told[seat] + 1
                reached.append(other)
    return tuple(told)


def neighbours(web, seat):
    """The rising row of seats that a seat has a tie with."""
    need_web(web)
    need_seat(web, seat)
    return beside(web, seat)


def steps(web, seat, other):
    """The fewest ties on a way from a seat to another one; None where there is no way."""
    need_web(web)
    need_seat(web, seat)
    need_seat(web, other)
    return steps_from(web, (other,))[seat]


def steps_to(web, seats):
    """For each seat the fewest steps to one of a rising row of seats, or None."""
    need_web(web)
    need_seats(web, seats)
    return steps_from(web, seats)


def within(web, seat, far):
    """The rising row of seats at most so many steps away from a seat, itself too."""
    need_web(web)
    need_seat(web, seat)
    if type(far) is not int or far < 0:
        raise NoNumber(far)
    told = steps_from(web, (seat,))
    return tuple([other for other, away in enumerate(told) if away is not None and away <= far])
