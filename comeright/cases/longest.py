"""Longest walks: how many steps it takes at most till all is right, and the papers that show it."""

from comeright.cases.shown import are_ranks, number_in
from comeright.cases.verdicts import is_case, least_of, net_of, plain_break, steps_right
from comeright.errors import NoCase
from comeright.kinds import is_number, is_row
from comeright.tables.tables import need_standing


def need_other_than_turn(case):
    """Refuse what is no case, and a case by turn."""
    if not is_case(case) or case[2] == "turn":
        raise NoCase("no case by one, some or all")


def steps_of(net):
    """For each standing the most steps till it is right; None of a net that doesn't come right."""
    if plain_break(net) is not None:
        return None
    told = steps_right(net)
    return None if None in told else told


def longest_from(net, steps, number):
    """A walk of the most steps from a standing on, by the most steps of each."""
    told = [net.standings[number]]
    for left in range(steps[number] - 1, -1, -1):
        number = [later for later in net.onward[number] if steps[later] == left][0]
        told.append(net.standings[number])
    return tuple(told)


def is_longest_walk(net, number, thing):
    """Whether it is a walk of so many steps, its last standing alone right."""
    if type(thing) is not tuple or len(thing) != number + 1:
        return False
    numbers = [number_in(net, standing) for standing in thing]
    if None in numbers or net.wrong[numbers[-1]]:
        return False
    return not [1 for at, later in zip(numbers, numbers[1:]) if not net.wrong[at] or later not in net.onward[at]]


def is_paper(net, thing):
    """Whether it is a paper of a net that comes right."""
    if not is_row(thing, 3, 3):
        return False
    number, walk, ranks = thing
    if not is_number(number) or not is_longest_walk(net, number, walk) or not are_ranks(net, ranks):
        return False
    return not [1 for rank in ranks if rank is not None and rank >= number]


def most_from(case, standing):
    """The most steps from a standing till it is right; None of a case that doesn't come right."""
    need_other_than_turn(case)
    need_standing(case[0], standing)
    net = net_of(case)
    steps = steps_of(net)
    return None if steps is None else steps[net.number_of[standing]]


def least_ranks(case):
    """The least ranks of a case; None of one that doesn't come right."""
    need_other_than_turn(case)
    steps = steps_of(net_of(case))
    return None if steps is None else least_of(steps)


def longest(case):
    """The paper of a case: (number, walk, ranks); None of one that doesn't come right."""
    need_other_than_turn(case)
    net = net_of(case)
    steps = steps_of(net)
    if steps is None:
        return None
    number = max(steps)
    return (number, longest_from(net, steps, steps.index(number)), least_of(steps))


def shows_longest(case, thing):
    """Whether it is a paper of a case; of one that doesn't come right whether it is None."""
    need_other_than_turn(case)
    net = net_of(case)
    if steps_of(net) is None:
        return thing is None
    return is_paper(net, thing)
