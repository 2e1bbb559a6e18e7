"""What is shown of a case: whether a thing is ranks of it, or a break."""

from comeright.cases.verdicts import net_of_any
from comeright.kinds import is_number, is_row


def is_rank(net, number, thing):
    """Whether it may be the rank of a standing, whatever the others have."""
    if not net.wrong[number]:
        return thing is None
    if net.movers != "turn":
        return is_number(thing)
    if not is_row(thing, 2, 2) or not is_number(thing[0]):
        return False
    helper = thing[1]
    shifts = net.shifts[number]
    return type(helper) is int and 0 <= helper < len(shifts) and len(shifts[helper]) > 0


def falls(net, ranks, number):
    """Whether each wrong next of a wrong standing has a lesser rank."""
    return not [1 for later in net.wrong_nexts(number) if ranks[later] >= ranks[number]]


def falls_by_turn(net, ranks, number):
    """Whether each wrong next of a wrong standing has a lesser number, or the same rank by a move of no helper."""
    rank = ranks[number]
    for seat, moves in enumerate(net.shifts[number]):
        for shift in moves:
            later = ranks[number + shift]
            if later is None or later[0] < rank[0]:
                continue
            if seat == rank[1] or later != rank:
                return False
    return True


def is_well(net, ranks, number):
    """Whether a standing's nexts are as ranks, each of which may be one, would have them."""
    if not net.wrong[number]:
        return net.wrong_nexts(number) == []
    if len(net.onward[number]) == 0:
        return False
    if net.movers == "turn":
        return falls_by_turn(net, ranks, number)
    return falls(net, ranks, number)


def are_ranks(net, thing):
    """Whether it is ranks of a net."""
    many = len(net.wrong)
    if not is_row(thing, many, many):
        return False
    if [1 for number, rank in enumerate(thing) if not is_rank(net, number, rank)]:
        return False
    return not [1 for number in range(many) if not is_well(net, thing, number)]


def number_in(net, thing):
    """The number of a standing; None of what is none."""
    size, seats = net.table
    if not is_row(thing, len(seats), len(seats)):
        return None
    if [1 for mark in thing if type(mark) is not int or not 0 <= mark < size]:
        return None
    return net.number_of[thing]


def does_each_move(net, numbers):
    """Whether, in a ring by turn, each seat moves, or isn't able at one of the standings."""
    for seat in range(len(net.table[1])):
        if not [1 for number in numbers if len(net.shifts[number][seat]) == 0]:
            marks = [net.standings[number][seat] for number in numbers]
            # A seat that moves has another mark behind it.
            if marks.count(marks[0]) == len(marks):
                return False
    return True


def is_ring(net, thing):
    """Whether it is a ring: the row of standings of a break."""
    if type(thing) is not tuple or len(thing) < 2:
        return False
    numbers = [number_in(net, standing) for standing in thing]
    if [1 for number in numbers if number is None or not net.wrong[number]]:
        return False
    for at, number in enumerate(numbers):
        if number not in net.onward[numbers[at - 1]]:
            return False
    return net.movers != "turn" or does_each_move(net, numbers)


def is_break(net, thing):
    """Whether it is a break of a net."""
    if not is_row(thing, 2, 3):
        return False
    if len(thing) == 2 and thing[0] == "ring":
        return is_ring(net, thing[1])
    number = number_in(net, thing[1])
    if number is None:
        return False
    if len(thing) == 2:
        return thing[0] == "stuck" and net.wrong[number] and len(net.onward[number]) == 0
    later = number_in(net, thing[2])
    if thing[0] != "left" or later is None:
        return False
    return not net.wrong[number] and net.wrong[later] and later in net.onward[number]


def shows_ranks(case, thing):
    """Whether it is ranks of a case."""
    return are_ranks(net_of_any(case), thing)


def shows_break(case, thing):
    """Whether it is a break of a case."""
    return is_break(net_of_any(case), thing)
