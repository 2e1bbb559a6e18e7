"""Lots of cases by turn, and the seats that bind them."""

from comeright.cases.knots import binders_of, lots_of
from comeright.cases.verdicts import is_case, net_of
from comeright.errors import NoCase, NoLot
from comeright.kinds import is_row
from comeright.tables.tables import MOST_STANDINGS, stands_in


def need_turn(case):
    """Refuse what is no case by turn."""
    if not is_case(case) or case[2] != "turn":
        raise NoCase("no case by turn")


def are_standings(table, thing):
    """Whether it is a row of standings of what surely is a table."""
    return is_row(thing, 1, MOST_STANDINGS) and not [1 for standing in thing if not stands_in(table, standing)]


def lots(case):
    """The rising row of the lots of a case by turn."""
    need_turn(case)
    net = net_of(case)
    # A standing's number is the lesser the lesser it is: so lots of numbers rise as their standings do.
    return tuple([tuple([net.standings[number] for number in lot]) for lot in sorted(lots_of(net))])


def binders(case, lot):
    """The rising row of seats that bind a lot of a case by turn."""
    need_turn(case)
    net = net_of(case)
    if not are_standings(case[0], lot):
        raise NoLot("no lot of this case")
    numbers = [net.number_of[standing] for standing in lot]
    if numbers not in lots_of(net):
        raise NoLot("no lot of this case")
    return tuple(binders_of(net, numbers))
