"""Tables made view by view."""

from comeright.errors import NoTable
from comeright.tables.tables import MOST_HANDS, MOST_STANDINGS, all_rows, all_standings, power
from comeright.tables.wishes import many_able


def need_room(size, many):
    """Refuse what would be no table: more seats or more standings than one has."""
    if many > MOST_HANDS or power(size, many) > MOST_STANDINGS:
        raise NoTable("too many seats, or too many standings")


def table_of(size, looks, telling):
    """The table of seats with such looks, each of which may move to the rising marks told for it and its view."""
    seats = []
    for seat, row in enumerate(looks):
        moves = []
        for view in all_rows(size, 1 + len(row)):
            moves.append(tuple([mark for mark in telling(seat, view) if mark != view[0]]))
        seats.append((tuple(row), tuple(moves)))
    return (size, tuple(seats))


def where_able(table, many):
    """The rising row of standings at which just so many seats are able."""
    told = all_standings(table)
    return tuple([standing for standing, able in zip(told, many_able(table, list(zip(*told)))) if able == many])
